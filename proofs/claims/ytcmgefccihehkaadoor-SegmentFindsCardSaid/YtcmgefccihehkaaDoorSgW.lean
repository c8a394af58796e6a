/- The statements' Row and Great. -/
import Derived.Test.YtcmgefccihehkaaDoorFrT
import Derived.Test.YtcmgefccihehkaaDoorFrRows
import Derived.Test.YtcmgefccihehkaaDoorTake
import Derived.Test.YtcmgefccihehkaaDoorAp
import Derived.Test.YtcmgefccihehkaaDoorOpen
namespace Go.Proofs.YtcmgefccihehkaaDoor
open Go.RowKit
open Crc Frm

theorem own_apart {w : World} {b1 b2 : Nat} {v u : Value} {bs : List Nat} {ts : List FC} (h : OwnB w b1 5 v bs) (k : OwnF w b2 u ts) : v.ownBlock = none ∨ v.ownBlock ≠ u.ownBlock := by
  rcases k.own.2 with ⟨rfl, _⟩ | ⟨g, cap, cur, rfl, _, hh, _⟩
  · cases v.ownBlock
    · exact .inl rfl
    · right; simp [Value.ownBlock]
  · rcases h.2 with ⟨rfl, _⟩ | ⟨g2, cap2, cur2, rfl, _, hh2, _⟩
    · exact .inl rfl
    · right
      intro e
      have : g2 = g := by simpa [Value.ownBlock] using e
      subst this
      rw [hh] at hh2
      simp at hh2
def frC (first i : Nat) (bs : List Nat) : Fr := ⟨((1 + i % 15 : Nat) : Int), ((first + i : Nat) : Int), bs.take 900⟩
def fsC (first : Nat) (bss : List (List Nat)) (k : Nat) : List Fr := (List.range k).map fun i => frC first i (bss.getD i [])
theorem fsC_succ (first : Nat) (bss : List (List Nat)) (k : Nat) : fsC first bss (k + 1) = fsC first bss k ++ [frC first k (bss.getD k [])] := by simp [fsC, List.range_succ]
theorem fsC_len (first : Nat) (bss : List (List Nat)) (k : Nat) : (fsC first bss k).length = k := by simp [fsC]
theorem fsC_get (first : Nat) (bss : List (List Nat)) (k i : Nat) (f : Fr) (h : (fsC first bss k)[i]? = some f) : f = frC first i (bss.getD i []) := by
  unfold fsC at h
  rw [List.getElem?_map] at h
  obtain ⟨j, hj, rfl⟩ := Option.map_eq_some_iff.1 h
  have hl := (List.getElem?_eq_some_iff.1 hj).1
  rw [List.length_range] at hl
  rw [List.getElem?_range hl] at hj
  injection hj with hj
  subst hj
  rfl
theorem frC_right (first i : Nat) (bs : List Nat) (h : first + i ≤ 1073741824) : (frC first i bs).right := by
  have := Nat.mod_lt i (show 0 < 15 by decide)
  have h2 : (bs.take 900).length ≤ 900 := by rw [List.length_take]; omega
  unfold frC Fr.right
  simp only
  omega
theorem rows_fsC_le (first : Nat) (bss : List (List Nat)) : ∀ k, (rows (fsC first bss k)).length ≤ 911 * k := by
  intro k
  induction k with
  | zero => simp [fsC, rows]
  | succ k ih =>
    rw [fsC_succ, rows_snoc, List.length_append, raw_len]
    have h2 : (frC first k (bss.getD k [])).body.length ≤ 900 := by show (List.take 900 _).length ≤ 900; rw [List.length_take]; omega
    omega
theorem min2_any (x y : Nat) (w : World) :
    (Builtin.min_ #[3, 3] 3 #[.int .i64 (x : Int), .int .i64 (y : Int)]).run Tryd.prog w = .ok (.int .i64 ((min x y : Nat) : Int)) w := by
  have e1 : (if (y : Int) < (x : Int) then (y : Int) else (x : Int)) = ((min x y : Nat) : Int) := by split <;> omega
  simp only [Builtin.min_, List.foldlM, Builtin.min2, Sem.run_bind, Sem.run_pure, Result.andThen_ok]
  rw [e1]

/-- 'append(l, f)' of one frame, at a step of a region that draws its order. -/
theorem wp_append_fr {w : World} {o : Oper} {a : Act} {K : Act → World → Prop} {Q : Exit → Act → World → Prop} (s x : Operand)
    (ho : o.op = .call { callee := .builtin .append, args := #[s, x], argTypes := #[26, 26] })
    (base : Nat) (v : Value) (ts : List FC) (hs : a.eval s = v) (g : Nat) (t : FC) (hx : a.eval x = .slice (some ⟨g, 0, none⟩) 1 1)
    (hown : OwnF w base v ts) (hg : w.heap[g]? = some (.cells #[.int .i64 t.1.ty, .int .i64 t.1.seq, .slice t.2.1 t.1.body.length t.2.2] 36 (0, 0)))
    (hb : Sl w w.heap.size t.2.1 t.1.body.length t.2.2 t.1.body) (hbn : 0 < t.1.body.length → ∀ b o, t.2.1 = some ⟨b, o, none⟩ → some b ≠ v.ownBlock) (hn : ts.length ≤ 1000000) (hbase : base ≤ w.heap.size)
    (h : ∀ v' w', OwnF w' base v' (ts ++ [t]) → w.grownBy w' v.ownBlock → (v'.ownBlock = v.ownBlock ∨ v'.ownBlock = some w.heap.size) → K (a.put o.dst v') w') :
    o.wp Tryd.prog a w K Q := by
  obtain ⟨i, hi, hz0, hz1, hz2⟩ := info_parts info_frame
  obtain ⟨v', w', hr, h1, h2, h3, h4⟩ := run_append_own_at (P := Tryd.prog) w base 26 o.type 36 i (.agg #[.int .i64 0, .int .i64 0, .slice none 0 0]) 3 40 Tryd.underlying26 hi hz0 hz1 hz2 rfl (by decide) v ts.length (fcells ts) hown.own ⟨g, 0, none⟩ 1 1 [.int .i64 t.1.ty, .int .i64 t.1.seq, .slice t.2.1 t.1.body.length t.2.2] rfl (by
      intro j u hj
      have hj3 : j < 3 := (List.getElem?_eq_some_iff.1 hj).1
      rw [Addr.add_mid, Nat.zero_add, cell_of_row w g j _ _ _ hg, List.getElem?_toArray]
      exact hj) (by
      intro u hu
      simp at hu
      rcases hu with rfl | rfl | rfl <;> rfl) (by unfold maxLen; omega) (by omega) hbase
  unfold Oper.wp execOp
  simp only [ho, resolve, invoke, builtin, Sem.run_bind, Sem.run_pure, Result.andThen_ok, List.map_toArray, List.map_cons, List.map_nil, hs, hx, hr]
  refine h v' w' ⟨by rw [List.length_append, fcells_snoc]; exact h1, ?_⟩ h2 h4
  have key : ∀ (x : FC), (Sl w w.heap.size x.2.1 x.1.body.length x.2.2 x.1.body ∧ (0 < x.1.body.length → ∀ b o, x.2.1 = some ⟨b, o, none⟩ → some b ≠ v.ownBlock)) →
      Sl w' w'.heap.size x.2.1 x.1.body.length x.2.2 x.1.body ∧ (0 < x.1.body.length → ∀ b o, x.2.1 = some ⟨b, o, none⟩ → some b ≠ v'.ownBlock) := by
    rintro x ⟨hx, hne⟩
    refine ⟨(hx.kept h2 hne).more h2.size, fun hp b o e => ?_⟩
    rcases h4 with h4 | h4
    · rw [h4]; exact hne hp b o e
    · rw [h4]
      obtain ⟨b', o', e', hlt, _⟩ := hx.at_ hp
      rw [e] at e'
      injection e' with e'
      injection e' with e'
      intro hx
      injection hx with hx
      omega
  intro x hx
  rcases List.mem_append.1 hx with hx | hx
  · exact key x (hown.bodies x hx)
  · simp at hx
    subst hx
    exact key x ⟨hb, hbn⟩

set_option linter.unusedSimpArgs false in
set_option maxRecDepth 100000 in
set_option maxHeartbeats 3200000 in
theorem row_any (a : Option Addr) (len cap : Nat) (bss : List (List Nat)) (f0 : Nat) (hf0 : f0 < 1073741000) (w : World) (hs : Sls w w.heap.size a len cap bss) (h20 : len ≤ 20) :
    Calls Tryd.prog 24 #[.slice a len cap, .int .i64 (f0 : Int)] w fun e w' => ∃ al cl ts, e = .returned (.slice al len cl) ∧ ts.map (·.1) = fsC f0 bss len ∧ OwnF w' w.heap.size (.slice al len cl) ts ∧
      (∀ t ∈ ts, 0 < t.1.body.length → ∀ b o, t.2.1 = some ⟨b, o, none⟩ → b < w.heap.size) ∧ Below w.heap.size w w' := by
  have hle := hs.le
  have hsl := hs.length
  have hmx := hs.max
  unfold maxLen at hmx
  have h20' : (len : Int) ≤ 20 := by omega
  go_enter Tryd.func24, Tryd.ntmps24
  go_wp2_with fail
  go_loopw [5, 6] (fun l i wx => ∃ (k : Nat) (al : Option Addr) (cl : Nat) (ts : List FC), k ≤ len ∧ i = .int .i64 (k : Int) ∧ l = .slice al k cl ∧ ts.length = k ∧ ts.map (·.1) = fsC f0 bss k ∧ OwnF wx w.heap.size (.slice al k cl) ts ∧
      (∀ t ∈ ts, 0 < t.1.body.length → ∀ b o, t.2.1 = some ⟨b, o, none⟩ → b < w.heap.size) ∧ Below w.heap.size w wx)
    (fun _ i _ => len - (intOf i).toNat)
  case atStart => exact ⟨0, none, 0, [], by omega, rfl, rfl, rfl, rfl, OwnF.nil_ _ _, by simp, Below.refl _ _⟩
  case round =>
    obtain ⟨k, al, cl, ts, hk, rfl, rfl, htl, hts, hol, hbd, hB⟩ := hrel
    by_cases hlt : k < len
    · obtain ⟨b, o, rfl, hb, hc⟩ := hs.at_ (by omega)
      obtain ⟨ba, bc, c0, hsb⟩ := hc k bss[k] (List.getElem?_eq_getElem (by omega))
      have hfs := fsC_succ f0 bss k
      rw [show bss.getD k [] = bss[k] from by rw [List.getD_eq_getElem?_getD, List.getElem?_eq_getElem (by omega)]; rfl] at hfs
      generalize bss[k] = bs at c0 hsb hfs
      have c1 := (hB.cell (p := ⟨b, o + k, none⟩) hb).trans c0
      obtain ⟨lb, hlb⟩ : ∃ l, l = bs.length := ⟨_, rfl⟩
      rw [← hlb] at c0 c1 hsb
      obtain ⟨m, hm⟩ : ∃ m, m = min lb 900 := ⟨_, rfl⟩
      have hmin : ∀ w, (Builtin.min_ #[3, 3] 3 #[.int .i64 (lb : Int), .int .i64 900]).run Tryd.prog w = .ok (.int .i64 (m : Int)) w := by rw [hm]; exact min2_any lb 900
      have hmb : m ≤ bc := by have := hsb.le; omega
      have cut := run_cut_to (P := Tryd.prog) 22 5 Tryd.underlying22 info_u8 ba lb bc m hmb
      have hsm := hsb.take (k := m) (by omega)
      have hbt : bs.take m = (frC f0 k bs).body := by
        show bs.take m = bs.take 900
        rw [hm]
        by_cases h : lb ≤ 900
        · rw [Nat.min_eq_left h, List.take_of_length_le (by omega), List.take_of_length_le (by omega)]
        · rw [Nat.min_eq_right (by omega)]
      have hbl : (frC f0 k bs).body.length = m := by rw [← hbt, List.length_take]; omega
      obtain ⟨d, hd⟩ : ∃ d, d = 1 + k % 15 := ⟨_, rfl⟩
      obtain ⟨q, hq⟩ : ∃ q, q = f0 + k := ⟨_, rfl⟩
      have hw1 : IntKind.i64.wrap (1 + (k : Int).tmod 15) = (d : Int) := by
        have e : (k : Int).tmod 15 = ((k % 15 : Nat) : Int) := rfl
        rw [e, IntKind.wrap_i64]; omega
      have hw0 : IntKind.i64.wrap ((k : Int).tmod 15) = (k : Int).tmod 15 := by
        have e : (k : Int).tmod 15 = ((k % 15 : Nat) : Int) := rfl
        rw [e, IntKind.wrap_i64]; omega
      have hw3 : IntKind.i64.wrap ((f0 : Int) + (k : Int)) = (q : Int) := by rw [IntKind.wrap_i64]; omega
      have hty : (frC f0 k bs).ty = (d : Int) := by rw [hd]; rfl
      have hsq : (frC f0 k bs).seq = (q : Int) := by rw [hq]; rfl
      have hsb1 : Sl wr wr.heap.size ba (frC f0 k bs).body.length bc (frC f0 k bs).body := by
        rw [hbl, ← hbt]; exact (hsm.below hB (Nat.le_refl _)).more hB.size
      have hbdk : 0 < (frC f0 k bs).body.length → ∀ b o, ba = some ⟨b, o, none⟩ → b < w.heap.size := fun hp b' o' e => by
        rw [hbl] at hp
        obtain ⟨b2, o2, e2, hlt2, _⟩ := hsm.at_ hp
        rw [e] at e2
        injection e2 with e2
        injection e2 with e2
        omega
      have hbn : 0 < (frC f0 k bs).body.length → ∀ b o, ba = some ⟨b, o, none⟩ → some b ≠ (Value.slice al k cl).ownBlock := fun hp b' o' e h => by
        have h1 := hbdk hp b' o' e
        have h2 := (hol.at_base h.symm).1
        omega
      have hi1 : (0 : Int) ≤ (k : Int) := by omega
      have hi2 : (k : Int) < (len : Int) := by omega
      have hwl := hB.size
      have hol1 : OwnF ((wr.drew).alloc (.cells #[.int .i64 (d : Int), .int .i64 (q : Int), .slice ba m bc] 36)) w.heap.size (.slice al k cl) ts := hol.below ((Below.drew (Below.refl _ _)).alloc (Nat.le_refl _) _)
      have hblk : ((wr.drew).alloc (.cells #[.int .i64 (d : Int), .int .i64 (q : Int), .slice ba m bc] 36)).heap[wr.heap.size]? = some (.cells #[.int .i64 (frC f0 k bs).ty, .int .i64 (frC f0 k bs).seq, .slice ba (frC f0 k bs).body.length bc] 36 (0, 0)) := by
        rw [hty, hsq, hbl]; exact heap_alloc_new (wr.drew) _
      have hsb2 : Sl ((wr.drew).alloc (.cells #[.int .i64 (d : Int), .int .i64 (q : Int), .slice ba m bc] 36)) ((wr.drew).alloc (.cells #[.int .i64 (d : Int), .int .i64 (q : Int), .slice ba m bc] 36)).heap.size ba (frC f0 k bs).body.length bc (frC f0 k bs).body := (hsb1.below ((Below.drew (Below.refl _ _)).alloc (Nat.le_refl _) _) (Nat.le_refl _)).more (by simp)
      have hbsz : Below w.heap.size w ((wr.drew).alloc (.cells #[.int .i64 (d : Int), .int .i64 (q : Int), .slice ba m bc] 36)) := (Below.drew hB).alloc hwl _
      have HA := Lib.hid (And.intro hol1 (And.intro hblk (And.intro hsb2 (And.intro hbn (And.intro hbsz (And.intro hbdk (And.intro hbd (And.intro hts hfs))))))))
      clear hol1 hblk hsb2 hbn hbsz hbdk hbd hts hfs hol hB hsm hbt hbl hty hsq hsb1 hc c0 hsb hd hq hm hlb
      go_wp2_with fail
      refine wp_region_held_drew (S := fun w' => w'.cell? ⟨b, o + k, none⟩ = some (.slice ba lb bc)) (by kernel_rfl) c1 (fun hHeld => ?_)
      refine wpAnyH_take (i := 0) (v := ?_) rfl (by kernel_rfl) (by kernel_rfl) (by kernel_rfl) (fun _ _ _ h => h) (Or.inl ⟨by rfl, ?_⟩) (by assumption) ?_
      rotate_left
      · intro w hSw
        (try dsimp only at hSw)
        go_simp
        all_goals with_reducible rfl
      try simp only [Act.put, List.getElem_toArray, List.getElem_cons_succ, List.getElem_cons_zero, List.setIfInBounds_toArray, List.set_cons_zero, List.set_cons_succ]
      refine wpAnyH_take (i := 1) (v := ?_) rfl (by kernel_rfl) (by kernel_rfl) (by kernel_rfl) (fun _ _ _ h => h) (Or.inl ⟨by rfl, ?_⟩) (by assumption) ?_
      rotate_left
      · intro w hSw
        (try dsimp only at hSw)
        go_simp
        all_goals with_reducible rfl
      try simp only [Act.put, List.getElem_toArray, List.getElem_cons_succ, List.getElem_cons_zero, List.setIfInBounds_toArray, List.set_cons_zero, List.set_cons_succ]
      refine wpAnyH_take (i := 2) (v := ?_) rfl (by kernel_rfl) (by kernel_rfl) (by kernel_rfl) (fun _ _ _ h => h) (Or.inl ⟨by rfl, ?_⟩) (by assumption) ?_
      rotate_left
      · intro w hSw
        (try dsimp only at hSw)
        go_simp
        all_goals with_reducible rfl
      try simp only [Act.put, List.getElem_toArray, List.getElem_cons_succ, List.getElem_cons_zero, List.setIfInBounds_toArray, List.set_cons_zero, List.set_cons_succ]
      refine wpAnyH_take (i := 3) (v := ?_) rfl (by kernel_rfl) (by kernel_rfl) (by kernel_rfl) (fun _ _ _ h => h) (Or.inl ⟨by rfl, ?_⟩) (by assumption) ?_
      rotate_left
      · intro w hSw
        (try dsimp only at hSw)
        go_simp
        all_goals with_reducible rfl
      try simp only [Act.put, List.getElem_toArray, List.getElem_cons_succ, List.getElem_cons_zero, List.setIfInBounds_toArray, List.set_cons_zero, List.set_cons_succ]
      refine wpAnyH_take (i := 4) (v := ?_) rfl (by kernel_rfl) (by kernel_rfl) (by kernel_rfl) (fun _ _ _ h => h) (Or.inl ⟨by rfl, ?_⟩) (by assumption) ?_
      rotate_left
      · intro w hSw
        (try dsimp only at hSw)
        go_simp
        all_goals with_reducible rfl
      try simp only [Act.put, List.getElem_toArray, List.getElem_cons_succ, List.getElem_cons_zero, List.setIfInBounds_toArray, List.set_cons_zero, List.set_cons_succ]
      refine wpAnyH_take (i := 5) (v := ?_) rfl (by kernel_rfl) (by kernel_rfl) (by kernel_rfl) (fun _ _ _ h => h) (Or.inl ⟨by rfl, ?_⟩) (by assumption) ?_
      rotate_left
      · intro w hSw
        (try dsimp only at hSw)
        go_simp
        all_goals with_reducible rfl
      try simp only [Act.put, List.getElem_toArray, List.getElem_cons_succ, List.getElem_cons_zero, List.setIfInBounds_toArray, List.set_cons_zero, List.set_cons_succ]
      refine wpAnyH_take (i := 6) (v := ?_) rfl (by kernel_rfl) (by kernel_rfl) (by kernel_rfl) (fun _ _ _ h => h) (Or.inl ⟨by rfl, ?_⟩) (by assumption) ?_
      rotate_left
      · intro w hSw
        (try dsimp only at hSw)
        go_simp
        all_goals with_reducible rfl
      try simp only [Act.put, List.getElem_toArray, List.getElem_cons_succ, List.getElem_cons_zero, List.setIfInBounds_toArray, List.set_cons_zero, List.set_cons_succ]
      refine wpAnyH_take (i := 7) (v := ?_) rfl (by kernel_rfl) (by kernel_rfl) (by kernel_rfl) (fun _ _ _ h => h) (Or.inl ⟨by rfl, ?_⟩) (by assumption) ?_
      rotate_left
      · intro w hSw
        (try dsimp only at hSw)
        go_simp
        all_goals with_reducible rfl
      try simp only [Act.put, List.getElem_toArray, List.getElem_cons_succ, List.getElem_cons_zero, List.setIfInBounds_toArray, List.set_cons_zero, List.set_cons_succ]
      refine wpAnyH_take (i := 8) (v := ?_) rfl (by kernel_rfl) (by kernel_rfl) (by kernel_rfl) (fun _ _ _ h => h) (Or.inl ⟨by rfl, ?_⟩) (by assumption) ?_
      rotate_left
      · intro w hSw
        (try dsimp only at hSw)
        go_simp
        all_goals with_reducible rfl
      try simp only [Act.put, List.getElem_toArray, List.getElem_cons_succ, List.getElem_cons_zero, List.setIfInBounds_toArray, List.set_cons_zero, List.set_cons_succ]
      refine wpAnyH_take (i := 9) (v := ?_) rfl (by kernel_rfl) (by kernel_rfl) (by kernel_rfl) (fun _ _ _ h => h) (Or.inl ⟨by rfl, ?_⟩) (by assumption) ?_
      rotate_left
      · intro w hSw
        (try dsimp only at hSw)
        go_simp
        all_goals with_reducible rfl
      try simp only [Act.put, List.getElem_toArray, List.getElem_cons_succ, List.getElem_cons_zero, List.setIfInBounds_toArray, List.set_cons_zero, List.set_cons_succ]
      refine wpAnyH_take (i := 10) (v := ?_) rfl (by kernel_rfl) (by kernel_rfl) (by kernel_rfl) (fun _ _ _ h => h) (Or.inl ⟨by rfl, ?_⟩) (by assumption) ?_
      rotate_left
      · intro w hSw
        (try dsimp only at hSw)
        go_simp
        all_goals with_reducible rfl
      try simp only [Act.put, List.getElem_toArray, List.getElem_cons_succ, List.getElem_cons_zero, List.setIfInBounds_toArray, List.set_cons_zero, List.set_cons_succ]
      refine wpAnyH_take (i := 11) (v := ?_) rfl (by kernel_rfl) (by kernel_rfl) (by kernel_rfl) (fun _ _ _ h => h) (Or.inl ⟨by rfl, ?_⟩) (by assumption) ?_
      rotate_left
      · intro w hSw
        (try dsimp only at hSw)
        go_simp
        all_goals with_reducible rfl
      try simp only [Act.put, List.getElem_toArray, List.getElem_cons_succ, List.getElem_cons_zero, List.setIfInBounds_toArray, List.set_cons_zero, List.set_cons_succ]
      refine wpAnyH_take (i := 12) (v := ?_) rfl (by kernel_rfl) (by kernel_rfl) (by kernel_rfl) (fun _ _ _ h => h) (Or.inl ⟨by rfl, ?_⟩) (by assumption) ?_
      rotate_left
      · intro w hSw
        (try dsimp only at hSw)
        go_simp
        all_goals with_reducible rfl
      try simp only [Act.put, List.getElem_toArray, List.getElem_cons_succ, List.getElem_cons_zero, List.setIfInBounds_toArray, List.set_cons_zero, List.set_cons_succ]
      refine wpAnyH_take (i := 13) (v := ?_) rfl (by kernel_rfl) (by kernel_rfl) (by kernel_rfl) (fun _ _ _ h => h) (Or.inl ⟨by rfl, ?_⟩) (by assumption) ?_
      rotate_left
      · intro w hSw
        (try dsimp only at hSw)
        go_simp
        all_goals with_reducible rfl
      try simp only [Act.put, List.getElem_toArray, List.getElem_cons_succ, List.getElem_cons_zero, List.setIfInBounds_toArray, List.set_cons_zero, List.set_cons_succ]
      refine wpAnyH_take (i := 14) (v := ?_) rfl (by kernel_rfl) (by kernel_rfl) (by kernel_rfl) (fun _ _ _ h => h) (Or.inl ⟨by rfl, ?_⟩) (by assumption) ?_
      rotate_left
      · intro w hSw
        (try dsimp only at hSw)
        go_simp
        all_goals with_reducible rfl
      try simp only [Act.put, List.getElem_toArray, List.getElem_cons_succ, List.getElem_cons_zero, List.setIfInBounds_toArray, List.set_cons_zero, List.set_cons_succ]
      refine wpAnyH_take (i := 15) (v := ?_) rfl (by kernel_rfl) (by kernel_rfl) (by kernel_rfl) (fun _ _ _ h => h) (Or.inl ⟨by rfl, ?_⟩) (by assumption) ?_
      rotate_left
      · intro w hSw
        (try dsimp only at hSw)
        go_simp
        all_goals with_reducible rfl
      try simp only [Act.put, List.getElem_toArray, List.getElem_cons_succ, List.getElem_cons_zero, List.setIfInBounds_toArray, List.set_cons_zero, List.set_cons_succ]
      refine wpAnyH_take (i := 16) (v := ?_) rfl (by kernel_rfl) (by kernel_rfl) (by kernel_rfl) (fun _ _ _ h => h) (Or.inl ⟨by rfl, ?_⟩) (by assumption) ?_
      rotate_left
      · intro w hSw
        (try dsimp only at hSw)
        go_simp
        all_goals with_reducible rfl
      try simp only [Act.put, List.getElem_toArray, List.getElem_cons_succ, List.getElem_cons_zero, List.setIfInBounds_toArray, List.set_cons_zero, List.set_cons_succ]
      refine wpAnyH_take (i := 17) (v := ?_) rfl (by kernel_rfl) (by kernel_rfl) (by kernel_rfl) (fun _ _ _ h => h) (Or.inl ⟨by rfl, ?_⟩) (by assumption) ?_
      rotate_left
      · intro w hSw
        (try dsimp only at hSw)
        go_simp
        all_goals with_reducible rfl
      try simp only [Act.put, List.getElem_toArray, List.getElem_cons_succ, List.getElem_cons_zero, List.setIfInBounds_toArray, List.set_cons_zero, List.set_cons_succ]
      refine wpAnyH_take (i := 18) (v := ?_) rfl (by kernel_rfl) (by kernel_rfl) (by kernel_rfl) (fun _ _ _ h => h) (Or.inl ⟨by rfl, ?_⟩) (by assumption) ?_
      rotate_left
      · intro w hSw
        (try dsimp only at hSw)
        go_simp
        all_goals with_reducible rfl
      try simp only [Act.put, List.getElem_toArray, List.getElem_cons_succ, List.getElem_cons_zero, List.setIfInBounds_toArray, List.set_cons_zero, List.set_cons_succ]
      refine wpAnyH_ready (rs := [19]) (by kernel_rfl) (by simp) ?_
      refine AllReadyH.cons rfl (fun K hK => ?_) AllReadyH.nil
      rw [if_pos (by rfl)]
      go_simp
      have hblt : b < wr.drew.heap.size := block_lt_of_cell c1
      have c2 : (wr.drew.alloc (.cells #[.int .i64 (d : Int), .int .i64 (q : Int), .slice ba m bc] 36)).cell? ⟨b, o + k, none⟩ = some (.slice ba lb bc) := (World.cell?_alloc_past _ _ _ hblt).trans c1
      refine hK.out _ _ ?_ (fun hHeld => ?_)
      · exact c2
      clear hK K
      try simp only [Act.put, List.getElem_toArray, List.getElem_cons_succ, List.getElem_cons_zero, List.setIfInBounds_toArray, List.set_cons_zero, List.set_cons_succ]
      refine wpAnyH_ready (rs := [20]) (by kernel_rfl) (by simp) ?_
      refine AllReadyH.cons rfl (fun K hK => ?_) AllReadyH.nil
      rw [if_pos (by rfl)]
      refine wp_append_fr (.tmp 13) (.tmp 32) rfl w.heap.size (.slice al k cl) ts rfl wr.heap.size (frC f0 k bs, ba, bc) rfl HA.out.1 HA.out.2.1 HA.out.2.2.1 HA.out.2.2.2.1 (by omega) HA.out.2.2.2.2.1.size ?_
      intro v3 w3 ho3 hg3 hat3
      have hB3 : Below w.heap.size w w3 := HA.out.2.2.2.2.1.grown hg3 HA.out.2.2.2.2.1.size (fun z hz => (HA.out.1.at_base hz).1)
      have c3 : w3.cell? ⟨b, o + k, none⟩ = some (.slice ba lb bc) := hg3.cell c2 (fun h => by have hx : w.heap.size ≤ b := (HA.out.1.at_base h.symm).1; omega)
      refine hK.out _ _ ?_ (fun hHeld => ?_)
      · exact c3
      clear hK K
      try simp only [Act.put, List.getElem_toArray, List.getElem_cons_succ, List.getElem_cons_zero, List.setIfInBounds_toArray, List.set_cons_zero, List.set_cons_succ]
      obtain ⟨a3, k3, hv3, _⟩ := ho3.frs
      subst hv3
      have e2 : (ts ++ [((frC f0 k bs, ba, bc) : FC)]).length = k + 1 := by rw [List.length_append, htl]; rfl
      rw [e2] at ho3 ⊢
      have H3 := Lib.hid (And.intro ho3 hB3)
      clear ho3 hB3 hg3 hat3 c2
      refine wpAnyH_take (i := 21) (v := ?_) rfl (by kernel_rfl) (by kernel_rfl) (by kernel_rfl) (fun _ _ _ h => h) (Or.inl ⟨by rfl, ?_⟩) (by assumption) ?_
      rotate_left
      · intro w hSw
        (try dsimp only at hSw)
        go_simp
        all_goals with_reducible rfl
      try simp only [Act.put, List.getElem_toArray, List.getElem_cons_succ, List.getElem_cons_zero, List.setIfInBounds_toArray, List.set_cons_zero, List.set_cons_succ]
      refine wpAnyH_done (by kernel_rfl) ?_ _
      clear hHeld
      go_wp2_with fail
      go_roundw
      case rel =>
        refine ⟨k + 1, a3, k3, ts ++ [(frC f0 k bs, ba, bc)], by omega, by go_num, rfl, e2, ?_, H3.out.1, fun t ht => ?_, H3.out.2⟩
        · obtain ⟨_, _, _, _, _, _, _, hts, hfs⟩ := HA.out
          rw [List.map_append, hts, hfs]; rfl
        · rcases List.mem_append.1 ht with h | h
          · exact HA.out.2.2.2.2.2.2.1 t h
          · simp at h; subst h; exact HA.out.2.2.2.2.2.1
      case measure => simp [intOf]; omega
    · have hk' : k = len := by omega
      subst hk'
      have HB := Lib.hid (And.intro hts (And.intro hol (And.intro hbd hB)))
      clear hts hol hbd hB
      go_wp2_with fail
      go_ret
      exact ⟨al, cl, ts, rfl, HB.out⟩
end Go.Proofs.YtcmgefccihehkaaDoor
