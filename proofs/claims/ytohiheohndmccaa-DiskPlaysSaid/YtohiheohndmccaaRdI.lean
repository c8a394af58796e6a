/- The reference's disk: Write. -/
import Derived.Test.YtohiheohndmccaaRdH
import Derived.Test.YtohiheohndmccaaAp
namespace Go.Proofs.Ytohiheohndmccaa
open Go.RowKit
open Go.Maps
attribute [local go_sem] Oper.semAt_some

section
variable {w : World} {rp : Nat} {t : St} {O : Nat → Prop} {a : Option Addr} {c : Nat} {es : List REnt}
/-- What is new since w belongs to it, too. -/
theorem RdC.grow (h : RdC w rp t O a c es) {w1 : World} (hb : Below w.heap.size w w1) : RdC w1 rp t (fun k => O k ∨ (w.heap.size ≤ k ∧ k < w1.heap.size)) a c es := by
  have h1 := h.below hb
  refine ⟨h1.cells, h1.own, h1.D_, h1.good, fun e he => ⟨(h1.bytes e he).1, fun hp b o e' => ?_⟩, .inl h1.rpO, fun g hg => ⟨.inl (h1.ownO g hg).1, (h1.ownO g hg).2⟩, fun k hk => ?_, h1.fuse_, h1.fails_⟩
  · have := (h1.bytes e he).2 hp b o e'
    exact ⟨.inl this.1, this.2⟩
  · rcases hk with hk | hk
    · exact h1.lt k hk
    · exact hk.2
theorem RMv.widen {w w1 w' : World} {rp : Nat} {O : Nat → Prop} {t : St} (hb : Below w.heap.size w w1) (h : RMv w1 rp (fun k => O k ∨ (w.heap.size ≤ k ∧ k < w1.heap.size)) t w') : RMv w rp O t w' := by
  obtain ⟨O', h1, h2, h3⟩ := h
  refine ⟨O', h1, (But.of_below (O := O) hb).trans h2 (fun i hi => hi.imp id (fun h => h.1)), fun k hk => ?_⟩
  rcases h3 k hk with (h4 | h4) | h4
  · exact .inl h4
  · exact .inr h4.1
  · exact .inr (Nat.le_trans hb.size h4)
theorem room_wrap {a b : Nat} (h : b ≤ a) (ha : a ≤ 1048576) : IntKind.i64.wrap ((a : Int) - (b : Int)) = ((a - b : Nat) : Int) := by rw [IntKind.wrap_i64]; omega
set_option linter.unusedSimpArgs false in
set_option maxRecDepth 100000 in
set_option maxHeartbeats 6400000 in
/-- Write, where the machine stands still or the name is none. -/
theorem rwrite_early (h : RdC w rp t O a c es) (s : ByteArray) (hsz : s.size ≤ maxLen) (ba : Option Addr) (bn bc : Nat) (b : List Nat) (hb : Sl w w.heap.size ba bn bc b) (hbn : bn ≤ 140737488351232) (hearly : t.fuse = 0 ∨ nmOk s.data.toList = false) :
    Calls Try.prog 32 #[.pointer (some ⟨rp, 0, none⟩), .string s, .slice ba bn bc] w fun e w' => e = .returned (.int .i64 (t.write s.data.toList b).1) ∧ RMv w rp O (t.write s.data.toList b).2 w' := by
  by_cases hf : t.fuse = 0
  · have e : t.write s.data.toList b = (42, t) := by unfold St.write; rw [if_pos hf]
    rw [e]
    have CD := Lib.hid (rcall_dead h hf)
    have HR := Lib.hid (rowner ⟨a, c, es, h⟩)
    clear h
    go_enter Try.func32, Try.ntmps32
    go_wp2_with fail
    refine CD.out.mono ?_
    rintro e1 w1 ⟨rfl, rfl⟩
    go_wp2
    go_ret
    exact ⟨rfl, HR.out⟩
  have CD := Lib.hid (rcall_do h hf)
  have NM := Lib.hid (rname_any s hsz)
  have hcap := h.len_
  have hbl := hb.length
  have hnm := hearly.resolve_left hf
  · have e : t.write s.data.toList b = (1, t.burnt) := by unfold St.write; rw [if_neg hf, if_pos hnm]
    rw [e]
    rw [hnm] at NM
    clear h e
    go_enter Try.func32, Try.ntmps32
    go_wp2_with fail
    refine CD.out.mono ?_
    rintro e1 w1 ⟨rfl, h1, b1⟩
    have HR := Lib.hid (RMv.then b1 (rowner ⟨a, c, es, h1⟩))
    clear h1 b1 CD
    go_wp2_with fail
    refine (NM.out _).mono ?_
    rintro e1 w2 ⟨rfl, rfl⟩
    go_wp2
    go_ret
    exact ⟨rfl, HR.out⟩
set_option linter.unusedSimpArgs false in
set_option maxRecDepth 100000 in
set_option maxHeartbeats 6400000 in
/-- Write of a file that isn't there, and fits. -/
theorem rwrite_new (h : RdC w rp t O a c es) (s : ByteArray) (hsz : s.size ≤ maxLen) (ba : Option Addr) (bn bc : Nat) (b : List Nat) (hb : Sl w w.heap.size ba bn bc b) (hbn : bn ≤ 140737488351232) (hfar : 0 < bn → ∀ k o, ba = some ⟨k, o, none⟩ → ¬ O k)
    (hf : ¬ t.fuse = 0) (hnm1 : nmOk s.data.toList = true) (hi : ¬ ridx es s.data.toList < es.length) (hfit1 : fitsB t.D t.room s.data.toList b.length = true) :
    Calls Try.prog 32 #[.pointer (some ⟨rp, 0, none⟩), .string s, .slice ba bn bc] w fun e w' => e = .returned (.int .i64 (t.write s.data.toList b).1) ∧ RMv w rp O (t.write s.data.toList b).2 w' := by
  have CD := Lib.hid (rcall_do h hf)
  have NM := Lib.hid (rname_any s hsz)
  have hcap := h.len_
  have hbl := hb.length
  have hnm : ¬ nmOk s.data.toList = false := by rw [hnm1]; decide
  rw [hnm1] at NM
  have hSE : size t.D = es.length := by rw [h.D_, rD_size]
  have hT1 := h.good.tot_
  have hT2 := h.good.room_
  have hfat := h.gone_ hi
  have hfit : ¬ fitsB t.D t.room s.data.toList b.length = false := by rw [hfit1]; decide
  have e : t.write s.data.toList b = (0, { t.burnt with D := t.D.put (.string s.data.toList) (.held ⟨b, 0⟩) }) := by
    unfold St.write
    rw [if_neg hf, if_neg hnm, if_neg hfit, hfat]
    rfl
  rw [e]
  have hcond : es.length < 64 ∧ tot t.D + bn ≤ t.room := by
    unfold fitsB at hfit1
    rw [hfat, hSE, hbl] at hfit1
    simpa using hfit1
  have hG : Good (t.D.put (.string s.data.toList) (.held ⟨b, 0⟩)) t.room := h.good.put hnm1 (Nat.zero_le _) hb.byte (.inr (by rw [hSE]; exact hcond.1)) (by rw [hfat]; show tot t.D + b.length ≤ t.room + 0; rw [hbl]; omega)
  have hne : ∀ e ∈ es, e.s ≠ s.data.toList := by
    intro e he hs
    obtain ⟨j, hj⟩ := List.getElem?_of_mem he
    have hskip : ∀ (l : List REnt) (j : Nat) (e : REnt), l[j]? = some e → e.s = s.data.toList → ridx l s.data.toList ≤ j := by
      intro l
      induction l with
      | nil => intro j e hj; simp at hj
      | cons y l ih =>
        intro j e hj hs
        unfold ridx
        split
        · exact Nat.zero_le _
        · rename_i hy
          cases j with
          | zero =>
            have : y = e := by simpa using hj
            subst this
            exact absurd hs hy
          | succ j =>
            have := ih j e (by simpa using hj) hs
            omega
    have h1 := hskip es j e hj hs
    have h2 := (List.getElem?_eq_some_iff.1 hj).1
    omega
  obtain ⟨LF, hLF⟩ : ∃ LF, LF = t.room - tot t.D := ⟨_, rfl⟩
  have wr := room_wrap hT1 hT2
  rw [← hLF] at wr
  have HH := Lib.hid (And.intro h (And.intro hG (And.intro hne hb)))
  have hlt2 : decide ((LF : Int) < (bn : Int)) = false := by simp; omega
  have hlt3 : ¬ (LF : Int) < (bn : Int) := by omega
  have h64 : decide ((64 : Int) ≤ (es.length : Int)) = false := by simp; omega
  obtain ⟨n, hn⟩ : ∃ n, n = es.length := ⟨_, rfl⟩
  rw [← hn] at h64
  have HN := Lib.hid (And.intro hn hcond)
  clear h e hG hb hne hn hcond hLF
  go_enter Try.func32, Try.ntmps32
  go_wp2_with fail
  refine CD.out.mono ?_
  rintro e1 w1 ⟨rfl, h1, b1⟩
  have AT := rat_any h1 s
  unfold ratI at AT
  rw [if_neg hi] at AT
  have AT := Lib.hid AT
  have c0 : w1.cell? ⟨rp, 0, none⟩ = some (.int .i64 (t.room : Int)) := h1.cell.1
  have c1 := h1.cell.2.1
  rw [← HN.out.1] at c1
  have c0f := far_cellR c0
  have c1f := far_cellR c1
  have USf := Lib.hid (fun (x : World) (hx : Below w1.heap.size w1 x) => (show Calls Try.prog 16 #[.pointer (some ⟨rp, 0, none⟩)] x fun e w' => e = .returned (.int .i64 ((tot t.D : Nat) : Int)) ∧ x = w' from by have h9 := rused_any (h1.below hx); exact h9))
  have H1 := Lib.hid (And.intro h1 b1)
  clear h1 b1 CD c0 c1
  go_wp2_with fail
  refine (NM.out _).mono ?_
  rintro e1 w2 ⟨rfl, rfl⟩
  go_wp2_with fail
  refine AT.out.mono ?_
  rintro e1 w2 ⟨rfl, rfl⟩
  go_upto_region 6 with fail
  refine wp_region_held_drew (S := fun x => Below w1.heap.size w1 x) (by kernel_rfl) (Below.drew (Below.refl _ _)) (fun hHeld => ?_)
  refine wpAnyH_take (i := 0) (v := ?_) rfl (by kernel_rfl) (by kernel_rfl) (by kernel_rfl) (fun _ _ _ h => h) (Or.inl ⟨by rfl, ?_⟩) (by assumption) ?_
  rotate_left
  · intro w hSw
    (try dsimp only at hSw)
    go_simp
    all_goals with_reducible rfl
  try simp only [Act.put, List.getElem_toArray, List.getElem_cons_succ, List.getElem_cons_zero, List.setIfInBounds_toArray, List.set_cons_zero, List.set_cons_succ]
  refine wpAnyH_take (i := 1) (v := ?_) rfl (by kernel_rfl) (by kernel_rfl) (by kernel_rfl) (fun _ _ _ h => h) (Or.inl ⟨by rfl, ?_⟩) (by assumption) ?_
  rotate_left
  · intro w hSw
    (try dsimp only at hSw)
    go_simp
    all_goals with_reducible rfl
  try simp only [Act.put, List.getElem_toArray, List.getElem_cons_succ, List.getElem_cons_zero, List.setIfInBounds_toArray, List.set_cons_zero, List.set_cons_succ]
  refine wpAnyH_take (i := 2) (v := ?_) rfl (by kernel_rfl) (by kernel_rfl) (by kernel_rfl) (fun _ _ _ h => h) (Or.inl ⟨by rfl, ?_⟩) (by assumption) ?_
  rotate_left
  · intro w hSw
    (try dsimp only at hSw)
    go_simp
    all_goals with_reducible rfl
  try simp only [Act.put, List.getElem_toArray, List.getElem_cons_succ, List.getElem_cons_zero, List.setIfInBounds_toArray, List.set_cons_zero, List.set_cons_succ]
  refine wpAnyH_take (i := 3) (v := ?_) rfl (by kernel_rfl) (by kernel_rfl) (by kernel_rfl) (fun _ _ _ h => h) (Or.inl ⟨by rfl, ?_⟩) (by assumption) ?_
  rotate_left
  · intro w hSw
    (try dsimp only at hSw)
    go_simp
    all_goals with_reducible rfl
  try simp only [Act.put, List.getElem_toArray, List.getElem_cons_succ, List.getElem_cons_zero, List.setIfInBounds_toArray, List.set_cons_zero, List.set_cons_succ]
  refine wpAnyH_take (i := 4) (v := ?_) rfl (by kernel_rfl) (by kernel_rfl) (by kernel_rfl) (fun _ _ _ h => h) (Or.inl ⟨by rfl, ?_⟩) (by assumption) ?_
  rotate_left
  · intro w hSw
    (try dsimp only at hSw)
    go_simp
    all_goals with_reducible rfl
  try simp only [Act.put, List.getElem_toArray, List.getElem_cons_succ, List.getElem_cons_zero, List.setIfInBounds_toArray, List.set_cons_zero, List.set_cons_succ]
  refine wpAnyH_take (i := 5) (v := ?_) rfl (by kernel_rfl) (by kernel_rfl) (by kernel_rfl) (fun _ _ _ h => h) (Or.inl ⟨by rfl, ?_⟩) (by assumption) ?_
  rotate_left
  · intro w hSw
    (try dsimp only at hSw)
    go_simp
    all_goals with_reducible rfl
  try simp only [Act.put, List.getElem_toArray, List.getElem_cons_succ, List.getElem_cons_zero, List.setIfInBounds_toArray, List.set_cons_zero, List.set_cons_succ]
  refine wpAnyH_take (i := 6) (v := ?_) rfl (by kernel_rfl) (by kernel_rfl) (by kernel_rfl) (fun _ _ _ h => h) (Or.inl ⟨by rfl, ?_⟩) (by assumption) ?_
  rotate_left
  · intro w hSw
    (try dsimp only at hSw)
    go_simp
    all_goals with_reducible rfl
  try simp only [Act.put, List.getElem_toArray, List.getElem_cons_succ, List.getElem_cons_zero, List.setIfInBounds_toArray, List.set_cons_zero, List.set_cons_succ]
  refine wpAnyH_take (i := 7) (v := ?_) rfl (by kernel_rfl) (by kernel_rfl) (by kernel_rfl) (fun _ _ _ h => h) (Or.inl ⟨by rfl, ?_⟩) (by assumption) ?_
  rotate_left
  · intro w hSw
    (try dsimp only at hSw)
    go_simp
    all_goals with_reducible rfl
  try simp only [Act.put, List.getElem_toArray, List.getElem_cons_succ, List.getElem_cons_zero, List.setIfInBounds_toArray, List.set_cons_zero, List.set_cons_succ]
  refine wpAnyH_take (i := 8) (v := ?_) rfl (by kernel_rfl) (by kernel_rfl) (by kernel_rfl) (fun _ _ _ h => h) (Or.inl ⟨by rfl, ?_⟩) (by assumption) ?_
  rotate_left
  · intro w hSw
    (try dsimp only at hSw)
    go_simp
    all_goals with_reducible rfl
  try simp only [Act.put, List.getElem_toArray, List.getElem_cons_succ, List.getElem_cons_zero, List.setIfInBounds_toArray, List.set_cons_zero, List.set_cons_succ]
  refine wpAnyH_take (i := 9) (v := ?_) rfl (by kernel_rfl) (by kernel_rfl) (by kernel_rfl) (fun _ _ _ h => h) (Or.inl ⟨by rfl, ?_⟩) (by assumption) ?_
  rotate_left
  · intro w hSw
    (try dsimp only at hSw)
    go_simp
    all_goals with_reducible rfl
  try simp only [Act.put, List.getElem_toArray, List.getElem_cons_succ, List.getElem_cons_zero, List.setIfInBounds_toArray, List.set_cons_zero, List.set_cons_succ]
  refine wpAnyH_take (i := 10) (v := ?_) rfl (by kernel_rfl) (by kernel_rfl) (by kernel_rfl) (fun _ _ _ h => h) (Or.inl ⟨by rfl, ?_⟩) (by assumption) ?_
  rotate_left
  · intro w hSw
    (try dsimp only at hSw)
    go_simp
    all_goals with_reducible rfl
  try simp only [Act.put, List.getElem_toArray, List.getElem_cons_succ, List.getElem_cons_zero, List.setIfInBounds_toArray, List.set_cons_zero, List.set_cons_succ]
  refine wpAnyH_take (i := 11) (v := ?_) rfl (by kernel_rfl) (by kernel_rfl) (by kernel_rfl) (fun _ _ _ h => h) (Or.inl ⟨by rfl, ?_⟩) (by assumption) ?_
  rotate_left
  · intro w hSw
    (try dsimp only at hSw)
    go_simp
    all_goals with_reducible rfl
  try simp only [Act.put, List.getElem_toArray, List.getElem_cons_succ, List.getElem_cons_zero, List.setIfInBounds_toArray, List.set_cons_zero, List.set_cons_succ]
  refine wpAnyH_take (i := 12) (v := ?_) rfl (by kernel_rfl) (by kernel_rfl) (by kernel_rfl) (fun _ _ _ h => h) (Or.inl ⟨by rfl, ?_⟩) (by assumption) ?_
  rotate_left
  · intro w hSw
    (try dsimp only at hSw)
    go_simp
    all_goals with_reducible rfl
  try simp only [Act.put, List.getElem_toArray, List.getElem_cons_succ, List.getElem_cons_zero, List.setIfInBounds_toArray, List.set_cons_zero, List.set_cons_succ]
  refine wpAnyH_take (i := 13) (v := ?_) rfl (by kernel_rfl) (by kernel_rfl) (by kernel_rfl) (fun _ _ _ h => h) (Or.inl ⟨by rfl, ?_⟩) (by assumption) ?_
  rotate_left
  · intro w hSw
    (try dsimp only at hSw)
    go_simp
    all_goals with_reducible rfl
  try simp only [Act.put, List.getElem_toArray, List.getElem_cons_succ, List.getElem_cons_zero, List.setIfInBounds_toArray, List.set_cons_zero, List.set_cons_succ]
  refine wpAnyH_take (i := 14) (v := ?_) rfl (by kernel_rfl) (by kernel_rfl) (by kernel_rfl) (fun _ _ _ h => h) (Or.inl ⟨by rfl, ?_⟩) (by assumption) ?_
  rotate_left
  · intro w hSw
    (try dsimp only at hSw)
    go_simp
    all_goals with_reducible rfl
  try simp only [Act.put, List.getElem_toArray, List.getElem_cons_succ, List.getElem_cons_zero, List.setIfInBounds_toArray, List.set_cons_zero, List.set_cons_succ]
  refine wpAnyH_take (i := 15) (v := ?_) rfl (by kernel_rfl) (by kernel_rfl) (by kernel_rfl) (fun _ _ _ h => h) (Or.inl ⟨by rfl, ?_⟩) (by assumption) ?_
  rotate_left
  · intro w hSw
    (try dsimp only at hSw)
    go_simp
    all_goals with_reducible rfl
  try simp only [Act.put, List.getElem_toArray, List.getElem_cons_succ, List.getElem_cons_zero, List.setIfInBounds_toArray, List.set_cons_zero, List.set_cons_succ]
  refine wpAnyH_take (i := 16) (v := ?_) rfl (by kernel_rfl) (by kernel_rfl) (by kernel_rfl) (fun _ _ _ h => h) (Or.inl ⟨by rfl, ?_⟩) (by assumption) ?_
  rotate_left
  · intro w hSw
    (try dsimp only at hSw)
    go_simp
    all_goals with_reducible rfl
  try simp only [Act.put, List.getElem_toArray, List.getElem_cons_succ, List.getElem_cons_zero, List.setIfInBounds_toArray, List.set_cons_zero, List.set_cons_succ]
  refine wpAnyH_take (i := 17) (v := ?_) rfl (by kernel_rfl) (by kernel_rfl) (by kernel_rfl) (fun _ _ _ h => h) (Or.inl ⟨by rfl, ?_⟩) (by assumption) ?_
  rotate_left
  · intro w hSw
    (try dsimp only at hSw)
    go_simp
    all_goals with_reducible rfl
  try simp only [Act.put, List.getElem_toArray, List.getElem_cons_succ, List.getElem_cons_zero, List.setIfInBounds_toArray, List.set_cons_zero, List.set_cons_succ]
  refine take_first (i := 18) rfl (by kernel_rfl) (by kernel_rfl) (by kernel_rfl) (fun _ _ _ h => h) (GivesIf.call (by rfl) (fun w => ?_) (fun w hS => USf.out w hS)) (by assumption) ?_
  · go_simp
    all_goals with_reducible rfl
  try simp only [Act.put, List.getElem_toArray, List.getElem_cons_succ, List.getElem_cons_zero, List.setIfInBounds_toArray, List.set_cons_zero, List.set_cons_succ]
  refine wpAnyH_take (i := 19) (v := ?_) rfl (by kernel_rfl) (by kernel_rfl) (by kernel_rfl) (fun _ _ _ h => h) (Or.inl ⟨by rfl, ?_⟩) (by assumption) ?_
  rotate_left
  · intro w hSw
    (try dsimp only at hSw)
    go_simp
    all_goals with_reducible rfl
  try simp only [Act.put, List.getElem_toArray, List.getElem_cons_succ, List.getElem_cons_zero, List.setIfInBounds_toArray, List.set_cons_zero, List.set_cons_succ]
  refine wpAnyH_take (i := 20) (v := ?_) rfl (by kernel_rfl) (by kernel_rfl) (by kernel_rfl) (fun _ _ _ h => h) (Or.inl ⟨by rfl, ?_⟩) (by assumption) ?_
  rotate_left
  · intro w hSw
    (try dsimp only at hSw)
    go_simp
    all_goals with_reducible rfl
  try simp only [Act.put, List.getElem_toArray, List.getElem_cons_succ, List.getElem_cons_zero, List.setIfInBounds_toArray, List.set_cons_zero, List.set_cons_succ]
  refine wpAnyH_take (i := 21) (v := ?_) rfl (by kernel_rfl) (by kernel_rfl) (by kernel_rfl) (fun _ _ _ h => h) (Or.inl ⟨by rfl, ?_⟩) (by assumption) ?_
  rotate_left
  · intro w hSw
    (try dsimp only at hSw)
    go_simp
    all_goals with_reducible rfl
  try simp only [Act.put, List.getElem_toArray, List.getElem_cons_succ, List.getElem_cons_zero, List.setIfInBounds_toArray, List.set_cons_zero, List.set_cons_succ]
  refine wpAnyH_done (by kernel_rfl) ?_ _
  clear hHeld
  have hs1 := (HH.out.2.2.2.but H1.out.2 hfar)
  have hx1 : Below w1.heap.size w1 (w1.drew.alloc (.cells #[] 5)) := (Below.drew (Below.refl _ _)).alloc (Nat.le_refl _) _
  have hown : OwnB (w1.drew.alloc (.cells #[] 5)) w1.heap.size 5 (.slice (some ⟨w1.heap.size, 0, none⟩) 0 0) [] := OwnB.lit (w := w1.drew) _ [] (Nat.le_refl _) (by decide)
  have H4 := Lib.hid (And.intro hown (And.intro (hs1.below hx1 (Nat.le_refl _)) hx1))
  clear hs1 hx1 hown c0f c1f USf
  go_wp2_with (first
    | (at_builtin; go_loud (refine wpList_append_sl rfl (.tmp 43) (.tmp 44) 31 rfl w1.heap.size _ Try.underlying31 info_u8 (.slice (some ⟨w1.heap.size, 0, none⟩) 0 0) [] rfl H4.out.1 _ ba bn bc b rfl H4.out.2.1 (by simp; omega) (by simp) ?_); intro v5 w5 ho5 hg5 hat5; rw [List.nil_append] at ho5; have hB5 : Below w1.heap.size w1 w5 := H4.out.2.2.grown hg5 (by simp) (fun k hk => by simp [Value.ownBlock] at hk; omega); obtain ⟨a5, c5, hv5, hs5, hb5⟩ := ho5.sl_base HH.out.2.2.2.byte; subst hv5; have H5 := Lib.hid (And.intro hs5 (And.intro hb5 hB5)); clear ho5 hB5 hg5 hat5 hs5 hb5)
    | fail)
  have hg5 := H1.out.1.grow H5.out.2.2
  have hrl := H1.out.1.lt rp H1.out.1.rpO
  have PU := rput_any hg5 ⟨s.data.toList, a5, c5, b, 0⟩ (by have := HN.out.1; have := HN.out.2.1; omega) HH.out.2.2.1 HH.out.2.1 ⟨H5.out.1, fun hp k o e => ⟨.inr ⟨H5.out.2.1 k o e, by
    obtain ⟨b', o', e2, hlt, _⟩ := H5.out.1.at_ hp
    have e3 : a5 = some ⟨k, o, none⟩ := e
    rw [e3] at e2
    injection e2 with e2
    injection e2 with e2
    omega⟩, by have := H5.out.2.1 k o e; omega⟩⟩
  have hstr : (⟨s.data.toList.toArray⟩ : ByteArray) = s := by cases s; simp
  rw [hstr] at PU
  have PU2 : Calls Try.prog 49 #[.pointer (some ⟨rp, 0, none⟩), .agg #[.string s, .slice a5 bn c5, .int .i64 0]] w5 fun e w' => e = .returned (.tuple #[]) ∧ RMv w5 rp (fun k => O k ∨ (w1.heap.size ≤ k ∧ k < w5.heap.size)) ⟨t.D.put (.string s.data.toList) (.held ⟨b, 0⟩), t.burnt.room, t.burnt.fuse, t.burnt.fails⟩ w' := by
    rw [← hbl]
    exact PU
  have PU := Lib.hid PU2
  clear PU2
  clear hg5 hstr
  go_wp2_with fail
  with_reducible refine PU.out.mono ?_
  rintro e1 w6 ⟨rfl, hmv⟩
  have HF := Lib.hid (RMv.then H1.out.2 (RMv.widen H5.out.2.2 hmv))
  clear hmv PU
  go_wp2
  go_ret
  exact ⟨rfl, HF.out⟩
end
end Go.Proofs.Ytohiheohndmccaa
