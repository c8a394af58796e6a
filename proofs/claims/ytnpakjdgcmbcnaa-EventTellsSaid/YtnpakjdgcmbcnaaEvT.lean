/- The reader is handed rows. -/
import Derived.Test.YtnpakjdgcmbcnaaEvS
import Derived.Test.YtnpakjdgcmbcnaaEvY
namespace Go.Proofs.Ytnpakjdgcmbcnaa
open Go.RowKit
open Wir Evn
attribute [local go_sem] na_rints na_rlongs na_rcount na_rtext mt_rints mt_rlongs mt_rcount mt_rtext

/-- A row of pairs as cells, behind which so many are zero. -/
def rowA (n : Nat) (l : List (Int × Int)) : Array Value := (Array.range (n * 2)).map fun j => .int .i64 ((pairs l).getD j 0)
theorem rowA_size (n : Nat) (l : List (Int × Int)) : (rowA n l).size = n * 2 := by simp [rowA]
theorem rowA_get (n : Nat) (l : List (Int × Int)) (j : Nat) (h : j < n * 2) : (rowA n l)[j]? = some (.int .i64 ((pairs l).getD j 0)) := by
  simp [rowA, h]
theorem rowA_made (n : Nat) : madeCells #[.int .i64 0, .int .i64 0] (n * 2) = rowA n [] := by
  apply Array.ext_getElem?
  intro i
  simp only [madeCells, rowA, Array.getElem?_map]
  cases h : (Array.range (n * 2))[i]? with
  | none => rfl
  | some k =>
    simp only [Option.map_some, pairs, List.flatMap_nil, List.getD_nil]
    congr 1
    have : k % 2 = 0 ∨ k % 2 = 1 := by omega
    show (#[Value.int .i64 0, .int .i64 0])[k % 2]! = _
    rcases this with e | e <;> rw [e] <;> rfl
theorem rowA_put (n : Nat) (l : List (Int × Int)) (x y : Int) (h : l.length < n) : putAll (rowA n l) [(l.length * 2, .int .i64 x), (l.length * 2 + 1, .int .i64 y)] = rowA n (l ++ [(x, y)]) := by
  apply Array.ext_getElem?
  intro i
  have hp := pairs_len l
  have e : pairs (l ++ [(x, y)]) = pairs l ++ [x, y] := by rw [pairs_append]; rfl
  show (((rowA n l).setIfInBounds (l.length * 2) (.int .i64 x)).setIfInBounds (l.length * 2 + 1) (.int .i64 y))[i]? = _
  rw [Array.getElem?_setIfInBounds, Array.getElem?_setIfInBounds, Array.size_setIfInBounds, rowA_size]
  by_cases h3 : i < n * 2
  · rw [rowA_get _ _ _ h3, rowA_get _ _ _ h3, e]
    by_cases h1 : i = l.length * 2
    · subst h1
      rw [if_neg (by omega), if_pos rfl, if_pos (by omega)]
      rw [List.getD_eq_getElem?_getD, List.getElem?_append_right (by omega), hp, show l.length * 2 - 2 * l.length = 0 from by omega]
      rfl
    · by_cases h2 : i = l.length * 2 + 1
      · subst h2
        rw [if_pos rfl, if_pos (by omega)]
        rw [List.getD_eq_getElem?_getD, List.getElem?_append_right (by omega), hp, show l.length * 2 + 1 - 2 * l.length = 1 from by omega]
        rfl
      · rw [if_neg (by omega), if_neg (by omega)]
        by_cases h4 : i < (pairs l).length
        · rw [List.getD_eq_getElem?_getD, List.getD_eq_getElem?_getD, List.getElem?_append_left h4]
        · rw [List.getD_eq_getElem?_getD, List.getD_eq_getElem?_getD, List.getElem?_eq_none (by omega), List.getElem?_eq_none (by rw [List.length_append, hp]; simp; omega)]
  · have q1 : (rowA n l)[i]? = none := Array.getElem?_eq_none (by rw [rowA_size]; omega)
    have q2 : (rowA n (l ++ [(x, y)]))[i]? = none := Array.getElem?_eq_none (by rw [rowA_size]; omega)
    rw [q1, q2]
    split
    · rw [if_neg (by omega)]
    · split
      · rw [if_neg (by omega)]
      · rfl
theorem rowsR_len : ∀ (n : Nat) (s : RS), (rowsR n s).1.length = n
  | 0, _ => rfl
  | n + 1, s => by simp [rowsR, rowsR_len n]
/-- A count is within its bounds. -/
theorem int_in (s : RS) (m : Int) (hm : 0 ≤ m) : 0 ≤ (s.int 0 m).1 ∧ (s.int 0 m).1 ≤ m := by
  unfold RS.int RS.told
  split
  · exact ⟨by simp, by simpa using hm⟩
  split
  · exact ⟨by simp, by simpa using hm⟩
  · rename_i h
    unfold wi at h ⊢
    simp only
    by_cases h1 : (num (s.bs.drop s.n)).2.2 ≠ 0
    · rw [if_pos h1]; exact ⟨by simp, by simpa using hm⟩
    · rw [if_neg h1]
      by_cases h2 : (num (s.bs.drop s.n)).1 < 0 ∨ m < (num (s.bs.drop s.n)).1
      · rw [if_pos h2]; exact ⟨by simp, by simpa using hm⟩
      · rw [if_neg h2]; simp only; omega
theorem PRow.keep {w w' : World} {a : Option Addr} {n c : Nat} {l : List (Int × Int)} {P : Nat → Prop} (h : PRow w a n c l) (hb : But P w w') (hf : 0 < n → ∀ k o, a = some ⟨k, o, none⟩ → ¬ P k) : PRow w' a n c l :=
  ⟨⟨h.1.le, h.1.max, fun hp => by
    obtain ⟨b, o, e, hlt, hc⟩ := h.1.at_ hp
    exact ⟨b, o, e, Nat.lt_of_lt_of_le hlt hb.size, fun j hj => (World.cell?_of_block (w := w) (a := ⟨b, o + j, none⟩) (hb.block b hlt (hf hp b o e))).trans (hc j hj)⟩⟩, h.2⟩
theorem PRow.new_ {w : World} {g : Nat} {T : TypeId} {l : List (Int × Int)} {n : Nat} (h : w.heap[g]? = some (.cells (rowA n l) T (0, 0))) (hn : l.length = n) (hm : n ≤ maxLen) : PRow w (some ⟨g, 0, none⟩) n n l :=
  ⟨Row.new h (fun j hj => rowA_get n l j hj) hm, hn⟩
theorem PRow.nil_ {w : World} : PRow w none 0 0 [] := ⟨⟨Nat.le_refl _, by unfold maxLen; omega, fun h => absurd h (by omega)⟩, rfl⟩
theorem made_row {w : World} {r n base : Nat} {T : TypeId} (h : w.ownsRow base T 2 (.slice (some ⟨r, 0, none⟩) n n) n (madeCells (Value.agg #[.int .i64 0, .int .i64 0]).cells (n * 2)).toList) : w.heap[r]? = some (.cells (rowA n []) T (0, 0)) := by
  rcases h.2 with ⟨h', _⟩ | ⟨g, cap, cur, hv, hb, hh, h1, h2, h3, h4⟩
  · cases h'
  · injection hv with e1 e2 e3
    injection e1 with e4
    injection e4 with e5
    subst e5
    subst e3
    have : cur = rowA n [] := by
      apply Array.toList_inj.1
      rw [← rowA_made]
      rw [List.take_of_length_le (by rw [Array.length_toList]; omega)] at h4
      exact h4
    rw [hh, this]
theorem RB.switch {w0 wS w' : World} {g b r : Nat} {T U : TypeId} {cs cs' : Array Value} {s s' : RS} {O : Nat → Prop} (h : RB w0 wS g b T cs s O) (k : RB wS w' g r U cs' s' O) (hr : w0.heap.size ≤ r) (hbr : b ≠ r) : RB w0 w' g b T cs s' O :=
  ⟨k.rdr, (k.but.block b h.lt (by rintro (h1 | h1); exact h.far h1; exact hbr h1)).trans h.cells, h.far, h.but.trans k.but (fun i hi => hi.elim (fun h1 => .inl (.inl h1)) (fun e => .inr (by rw [e]; exact hr)))⟩
theorem put_at {cs : Array Value} {j : Nat} {u v : Value} (h : cs[j]? = some u) : (putAll cs [(j, v)])[j]? = some v := by
  show (cs.setIfInBounds j v)[j]? = _
  rw [Array.getElem?_setIfInBounds, if_pos rfl, if_pos]
  rcases Nat.lt_or_ge j cs.size with h1 | h1
  · exact h1
  · rw [Array.getElem?_eq_none h1] at h; cases h
set_option linter.unusedSimpArgs false in
set_option maxRecDepth 100000 in
set_option maxHeartbeats 6400000 in
theorem rrowsB_any {w0 w : World} {g q b j : Nat} {T : TypeId} {cs : Array Value} {s : RS} {O : Nat → Prop} (h : RB w0 w g b T cs s O) (hq : w0.cell? ⟨q, 0, none⟩ = some (.iface 50 (.agg #[.pointer (some ⟨g, 0, none⟩)]))) (hqO : ¬ O q) (hqb : q ≠ b) (hj : cs[j]? = some (.slice none 0 0)) :
    Calls Try.prog 53 #[.iface 50 (.agg #[.pointer (some ⟨g, 0, none⟩)]), .pointer (some ⟨b, j, none⟩), .int .i64 8, .func (.func 54) #[] #[.pointer (some ⟨q, 0, none⟩)]] w fun e w' =>
      e = .returned (.tuple #[]) ∧ ∃ a c, RB w0 w' g b T (putAll cs [(j, .slice a (getRows s).1.length c)]) (getRows s).2 O ∧ PRow w' a (getRows s).1.length c (getRows s).1 ∧ (∀ k o, a = some ⟨k, o, none⟩ → w.heap.size ≤ k) ∧ w.heap.size ≤ w'.heap.size := by
  have k0 := (h.cell hj).1
  have hin := int_in s 8 (by decide)
  obtain ⟨n, hn⟩ : ∃ n : Nat, (s.int 0 8).1 = (n : Int) := ⟨(s.int 0 8).1.toNat, by omega⟩
  have hn8 : n ≤ 8 := by omega
  have hG : getRows s = rowsR n (s.int 0 8).2 := by unfold getRows; rw [hn]; rfl
  have hGl : (getRows s).1.length = n := by rw [hG, rowsR_len]
  have hq' := h.keep hq hqO hqb
  have C := Lib.hid (rcount_new (RB.start h.rdr h.cells h.far).drew ((0 : Nat) : Int) 8 ⟨by decide, by decide⟩ (by rw [hn]; rw [IntKind.wrap_i64]; omega))
  rw [hn] at C
  have H0 := Lib.hid h
  have HJ := Lib.hid hj
  have HQ := Lib.hid (And.intro hq' (And.intro hqO hqb))
  have HG := Lib.hid (And.intro hG hGl)
  clear h hj hq hq' hqO hqb hG hin hn hGl
  generalize (s.int 0 8).2 = t at *
  go_enter Try.func53, Try.ntmps53
  go_wp2_with fail
  refine wp_region_held_drew (S := fun x => x.cell? ⟨b, j, none⟩ = some (.slice none 0 0)) (by kernel_rfl) k0 (fun hHeld => ?_)
  refine wpAnyH_take (i := 0) (v := ?_) rfl (by kernel_rfl) (by kernel_rfl) (by kernel_rfl) (fun _ _ _ h => h) (Or.inl ⟨by rfl, ?_⟩) (by assumption) ?_
  rotate_left
  · intro w hSw
    (try dsimp only at hSw)
    go_simp
    all_goals with_reducible rfl
  try simp only [Act.put, List.getElem_toArray, List.getElem_cons_succ, List.getElem_cons_zero, List.setIfInBounds_toArray, List.set_cons_zero, List.set_cons_succ]
  refine wpAnyH_take (i := 1) (v := ?_) rfl (by kernel_rfl) (by kernel_rfl) (by kernel_rfl) (fun _ _ _ h => h) (Or.inl ⟨by rfl, ?_⟩) (by assumption) ?_
  rotate_left
  · intro w hSw
    (try dsimp only at hSw)
    go_simp
    all_goals with_reducible rfl
  try simp only [Act.put, List.getElem_toArray, List.getElem_cons_succ, List.getElem_cons_zero, List.setIfInBounds_toArray, List.set_cons_zero, List.set_cons_succ]
  refine wpAnyH_take (i := 2) (v := ?_) rfl (by kernel_rfl) (by kernel_rfl) (by kernel_rfl) (fun _ _ _ h => h) (Or.inl ⟨by rfl, ?_⟩) (by assumption) ?_
  rotate_left
  · intro w hSw
    (try dsimp only at hSw)
    go_simp
    all_goals with_reducible rfl
  try simp only [Act.put, List.getElem_toArray, List.getElem_cons_succ, List.getElem_cons_zero, List.setIfInBounds_toArray, List.set_cons_zero, List.set_cons_succ]
  refine wpAnyH_take (i := 3) (v := ?_) rfl (by kernel_rfl) (by kernel_rfl) (by kernel_rfl) (fun _ _ _ h => h) (Or.inl ⟨by rfl, ?_⟩) (by assumption) ?_
  rotate_left
  · intro w hSw
    (try dsimp only at hSw)
    go_simp
    all_goals with_reducible rfl
  try simp only [Act.put, List.getElem_toArray, List.getElem_cons_succ, List.getElem_cons_zero, List.setIfInBounds_toArray, List.set_cons_zero, List.set_cons_succ]
  refine wpAnyH_take (i := 4) (v := ?_) rfl (by kernel_rfl) (by kernel_rfl) (by kernel_rfl) (fun _ _ _ h => h) (Or.inl ⟨by rfl, ?_⟩) (by assumption) ?_
  rotate_left
  · intro w hSw
    (try dsimp only at hSw)
    go_simp
    all_goals with_reducible rfl
  try simp only [Act.put, List.getElem_toArray, List.getElem_cons_succ, List.getElem_cons_zero, List.setIfInBounds_toArray, List.set_cons_zero, List.set_cons_succ]
  refine wpAnyH_take (i := 5) (v := ?_) rfl (by kernel_rfl) (by kernel_rfl) (by kernel_rfl) (fun _ _ _ h => h) (Or.inl ⟨by rfl, ?_⟩) (by assumption) ?_
  rotate_left
  · intro w hSw
    (try dsimp only at hSw)
    go_simp
    all_goals with_reducible rfl
  try simp only [Act.put, List.getElem_toArray, List.getElem_cons_succ, List.getElem_cons_zero, List.setIfInBounds_toArray, List.set_cons_zero, List.set_cons_succ]
  refine wpAnyH_take (i := 6) (v := ?_) rfl (by kernel_rfl) (by kernel_rfl) (by kernel_rfl) (fun _ _ _ h => h) (Or.inl ⟨by rfl, ?_⟩) (by assumption) ?_
  rotate_left
  · intro w hSw
    (try dsimp only at hSw)
    go_simp
    all_goals with_reducible rfl
  try simp only [Act.put, List.getElem_toArray, List.getElem_cons_succ, List.getElem_cons_zero, List.setIfInBounds_toArray, List.set_cons_zero, List.set_cons_succ]
  refine wpAnyH_take (i := 7) (v := ?_) rfl (by kernel_rfl) (by kernel_rfl) (by kernel_rfl) (fun _ _ _ h => h) (Or.inl ⟨by rfl, ?_⟩) (by assumption) ?_
  rotate_left
  · intro w hSw
    (try dsimp only at hSw)
    go_simp
    all_goals with_reducible rfl
  try simp only [Act.put, List.getElem_toArray, List.getElem_cons_succ, List.getElem_cons_zero, List.setIfInBounds_toArray, List.set_cons_zero, List.set_cons_succ]
  refine wpAnyH_take (i := 8) (v := ?_) rfl (by kernel_rfl) (by kernel_rfl) (by kernel_rfl) (fun _ _ _ h => h) (Or.inl ⟨by rfl, ?_⟩) (by assumption) ?_
  rotate_left
  · intro w hSw
    (try dsimp only at hSw)
    go_simp
    all_goals with_reducible rfl
  try simp only [Act.put, List.getElem_toArray, List.getElem_cons_succ, List.getElem_cons_zero, List.setIfInBounds_toArray, List.set_cons_zero, List.set_cons_succ]
  refine wpAnyH_ready (rs := [9]) (by kernel_rfl) (by simp) ?_
  refine AllReadyH.cons rfl (fun K hK => ?_) AllReadyH.nil
  rw [if_pos (by rfl)]
  go_simp
  go_at_call 74
  refine (C.out).mono ?_
  rintro e w1 ⟨rfl, h1⟩
  clear C
  have H := Lib.hid h1
  clear h1
  refine hK.out _ _ ?_ (fun hHeld => ?_)
  · exact ((H.out.cell HJ.out).1)
  clear hK K
  try simp only [Act.put, List.getElem_toArray, List.getElem_cons_succ, List.getElem_cons_zero, List.setIfInBounds_toArray, List.set_cons_zero, List.set_cons_succ]
  refine wpAnyH_take (i := 10) (v := ?_) rfl (by kernel_rfl) (by kernel_rfl) (by kernel_rfl) (fun _ _ _ h => h) (Or.inl ⟨by rfl, ?_⟩) (by assumption) ?_
  rotate_left
  · intro w hSw
    (try dsimp only at hSw)
    go_simp
    all_goals with_reducible rfl
  try simp only [Act.put, List.getElem_toArray, List.getElem_cons_succ, List.getElem_cons_zero, List.setIfInBounds_toArray, List.set_cons_zero, List.set_cons_succ]
  refine wpAnyH_done (by kernel_rfl) ?_ _
  clear hHeld
  obtain ⟨k1, z1⟩ := H.out.cell HJ.out
  clear k0
  by_cases h0 : n = 0
  · subst h0
    go_wp2_with fail
    go_loopw [31] (fun i wx => i = .int .i64 0 ∧ wx = w1) (fun _ _ => 0)
    case atStart => exact ⟨rfl, rfl⟩
    case round =>
      obtain ⟨rfl, rfl⟩ := hrel
      go_wp2
      go_end0
      refine ⟨rfl, none, 0, ?_, ?_, (fun k o e => by cases e), H.out.but.size⟩
      · rw [HG.out.2, HG.out.1]
        show RB _ _ _ _ _ (putAll cs [(j, .slice none 0 0)]) t O
        rw [putAll_same HJ.out]; exact H0.out.then_ H.out
      · rw [HG.out.2, HG.out.1]; exact PRow.nil_
  · have n0 : ((n : Int) == 0) = false := by simp; omega
    obtain ⟨i8, hi8, hz0, hz1, hz2⟩ := info_parts info_band
    go_wp2_with (at_make; refine wpList_make_full _ rfl (.tmp 27) (.tmp 27) 22 rfl w1.heap.size 44 i8 (.agg #[.int .i64 0, .int .i64 0]) 2 Try.underlying22 hi8 hz0 hz1 .i64 .i64 _ _ n rfl rfl rfl rfl (by rw [hz2]; omega) (by unfold maxLen; omega) (Nat.le_refl _) ?_; intro w3 hown hg; have h3 := H.out.on (Below.grown (Below.refl _ _) hg (Nat.le_refl _) (fun k hk => by cases hk)); have hx := made_row hown; obtain ⟨k3, z3⟩ := h3.cell HJ.out; have H3 := Lib.hid (And.intro h3 hx); clear k1 z1 hown hg h3 hx)
    have hs3 : w1.heap.size < w3.heap.size := lt_of_heap H3.out.2
    have hrow : (w3.setCell ⟨b, j, none⟩ (.slice (some ⟨w1.heap.size, 0, none⟩) n n)).heap[w1.heap.size]? = some (.cells (rowA n []) 44 (0, 0)) :=
      (Below.heap_setCell _ _ _ _ (by have := H.out.lt; show w1.heap.size ≠ b; omega)).trans H3.out.2
    have hset := H3.out.1.set_ j (.slice (some ⟨w1.heap.size, 0, none⟩) n n)
    have hrO : ¬ O w1.heap.size := fun ho => by have := H.out.rdr.lt _ ho; omega
    have hbr : b ≠ w1.heap.size := by have := H.out.lt; omega
    have hqk := hset.keep HQ.out.1 HQ.out.2.1 HQ.out.2.2
    have hqr : q ≠ w1.heap.size := by
      have e1 := block_lt_of_cell HQ.out.1
      have e2 := H.out.but.size
      simp only at e1; omega
    have HR := Lib.hid (RB.start (b := w1.heap.size) hset.rdr hrow hrO)
    have hc := (hset.cell (put_at HJ.out)).1
    have HS := Lib.hid (And.intro hset (And.intro hqk (And.intro hqr (And.intro hbr (And.intro hrO (And.intro hc H.out.but.size))))))
    clear hset hrow hqk hqr hbr hrO hc hs3 k3 z3
    generalize w3.setCell ⟨b, j, none⟩ (.slice (some ⟨w1.heap.size, 0, none⟩) n n) = wS at *
    generalize w1.heap.size = r at *
    have HC : Hid (∀ wx cs' s', RB wS wx g r 44 cs' s' O → wx.cell? ⟨b, j, none⟩ = some (.slice (some ⟨r, 0, none⟩) n n)) := fun wx cs' s' k => k.keep HS.out.2.2.2.2.2.1 HS.out.1.far HS.out.2.2.2.1
    go_loopw [31] (fun i wx => ∃ k : Nat, k ≤ n ∧ i = .int .i64 (k : Int) ∧ RB wS wx g r 44 (rowA n (rowsR k t).1) (rowsR k t).2 O) (fun i _ => n - (intOf i).toNat)
    case atStart => exact ⟨0, Nat.zero_le _, rfl, HR.out⟩
    case round =>
      obtain ⟨k, hk, rfl, hm⟩ := hrel
      have k5 := HC.out _ _ _ hm
      by_cases hlt : k < n
      · have hlt' : (k : Int) < (n : Int) := by omega
        have HL := Lib.hid (And.intro hk hlt)
        have C := Lib.hid (rrow1_any (u := k * 2) hm HS.out.2.1 HQ.out.2.1 HS.out.2.2.1 (by rw [rowA_size]; omega))
        have HZ := Lib.hid (And.intro (rowsR_snoc k t) (rowsR_len k t))
        clear hm
        go_wp2_with fail
        refine C.out.mono ?_
        rintro e w2 ⟨rfl, h2⟩
        have H2 := Lib.hid h2
        clear h2 C
        go_wp2
        go_roundw
        case rel =>
          refine ⟨k + 1, by have := HL.out; omega, by go_num, ?_⟩
          have h9 := H2.out
          have e9 := rowA_put n (rowsR k t).1 (rowsR k t).2.num.1 (rowsR k t).2.num.2.num.1 (by rw [HZ.out.2]; exact HL.out.2)
          rw [HZ.out.2] at e9
          rw [e9] at h9
          rw [HZ.out.1]
          exact h9
        case measure => have := HL.out; simp [intOf]; omega
      · have hlt' : ¬ (k : Int) < (n : Int) := by omega
        have ek : k = n := by omega
        subst ek
        have HB := Lib.hid hm
        clear hm
        go_wp2
        go_end0
        have h9 := HS.out.1.switch HB.out HS.out.2.2.2.2.2.2 HS.out.2.2.2.1
        refine ⟨rfl, some ⟨r, 0, none⟩, k, ?_, ?_, (fun k o e => by injection e with e; injection e with e; have := HS.out.2.2.2.2.2.2; omega), h9.but.size⟩
        · rw [HG.out.2, HG.out.1]; exact H0.out.then_ h9
        · rw [HG.out.2, HG.out.1]
          exact PRow.new_ HB.out.cells (rowsR_len _ _) (by unfold maxLen; omega)
set_option linter.unusedSimpArgs false in
set_option maxRecDepth 100000 in
set_option maxHeartbeats 6400000 in
theorem rrowsS_any {w0 w : World} {g q b j : Nat} {T : TypeId} {cs : Array Value} {s : RS} {O : Nat → Prop} (h : RB w0 w g b T cs s O) (hq : w0.cell? ⟨q, 0, none⟩ = some (.iface 50 (.agg #[.pointer (some ⟨g, 0, none⟩)]))) (hqO : ¬ O q) (hqb : q ≠ b) (hj : cs[j]? = some (.slice none 0 0)) :
    Calls Try.prog 55 #[.iface 50 (.agg #[.pointer (some ⟨g, 0, none⟩)]), .pointer (some ⟨b, j, none⟩), .int .i64 8, .func (.func 56) #[] #[.pointer (some ⟨q, 0, none⟩)]] w fun e w' =>
      e = .returned (.tuple #[]) ∧ ∃ a c, RB w0 w' g b T (putAll cs [(j, .slice a (getRows s).1.length c)]) (getRows s).2 O ∧ PRow w' a (getRows s).1.length c (getRows s).1 ∧ (∀ k o, a = some ⟨k, o, none⟩ → w.heap.size ≤ k) ∧ w.heap.size ≤ w'.heap.size := by
  have k0 := (h.cell hj).1
  have hin := int_in s 8 (by decide)
  obtain ⟨n, hn⟩ : ∃ n : Nat, (s.int 0 8).1 = (n : Int) := ⟨(s.int 0 8).1.toNat, by omega⟩
  have hn8 : n ≤ 8 := by omega
  have hG : getRows s = rowsR n (s.int 0 8).2 := by unfold getRows; rw [hn]; rfl
  have hGl : (getRows s).1.length = n := by rw [hG, rowsR_len]
  have hq' := h.keep hq hqO hqb
  have C := Lib.hid (rcount_new (RB.start h.rdr h.cells h.far).drew ((0 : Nat) : Int) 8 ⟨by decide, by decide⟩ (by rw [hn]; rw [IntKind.wrap_i64]; omega))
  rw [hn] at C
  have H0 := Lib.hid h
  have HJ := Lib.hid hj
  have HQ := Lib.hid (And.intro hq' (And.intro hqO hqb))
  have HG := Lib.hid (And.intro hG hGl)
  clear h hj hq hq' hqO hqb hG hin hn hGl
  generalize (s.int 0 8).2 = t at *
  go_enter Try.func55, Try.ntmps55
  go_wp2_with fail
  refine wp_region_held_drew (S := fun x => x.cell? ⟨b, j, none⟩ = some (.slice none 0 0)) (by kernel_rfl) k0 (fun hHeld => ?_)
  refine wpAnyH_take (i := 0) (v := ?_) rfl (by kernel_rfl) (by kernel_rfl) (by kernel_rfl) (fun _ _ _ h => h) (Or.inl ⟨by rfl, ?_⟩) (by assumption) ?_
  rotate_left
  · intro w hSw
    (try dsimp only at hSw)
    go_simp
    all_goals with_reducible rfl
  try simp only [Act.put, List.getElem_toArray, List.getElem_cons_succ, List.getElem_cons_zero, List.setIfInBounds_toArray, List.set_cons_zero, List.set_cons_succ]
  refine wpAnyH_take (i := 1) (v := ?_) rfl (by kernel_rfl) (by kernel_rfl) (by kernel_rfl) (fun _ _ _ h => h) (Or.inl ⟨by rfl, ?_⟩) (by assumption) ?_
  rotate_left
  · intro w hSw
    (try dsimp only at hSw)
    go_simp
    all_goals with_reducible rfl
  try simp only [Act.put, List.getElem_toArray, List.getElem_cons_succ, List.getElem_cons_zero, List.setIfInBounds_toArray, List.set_cons_zero, List.set_cons_succ]
  refine wpAnyH_take (i := 2) (v := ?_) rfl (by kernel_rfl) (by kernel_rfl) (by kernel_rfl) (fun _ _ _ h => h) (Or.inl ⟨by rfl, ?_⟩) (by assumption) ?_
  rotate_left
  · intro w hSw
    (try dsimp only at hSw)
    go_simp
    all_goals with_reducible rfl
  try simp only [Act.put, List.getElem_toArray, List.getElem_cons_succ, List.getElem_cons_zero, List.setIfInBounds_toArray, List.set_cons_zero, List.set_cons_succ]
  refine wpAnyH_take (i := 3) (v := ?_) rfl (by kernel_rfl) (by kernel_rfl) (by kernel_rfl) (fun _ _ _ h => h) (Or.inl ⟨by rfl, ?_⟩) (by assumption) ?_
  rotate_left
  · intro w hSw
    (try dsimp only at hSw)
    go_simp
    all_goals with_reducible rfl
  try simp only [Act.put, List.getElem_toArray, List.getElem_cons_succ, List.getElem_cons_zero, List.setIfInBounds_toArray, List.set_cons_zero, List.set_cons_succ]
  refine wpAnyH_take (i := 4) (v := ?_) rfl (by kernel_rfl) (by kernel_rfl) (by kernel_rfl) (fun _ _ _ h => h) (Or.inl ⟨by rfl, ?_⟩) (by assumption) ?_
  rotate_left
  · intro w hSw
    (try dsimp only at hSw)
    go_simp
    all_goals with_reducible rfl
  try simp only [Act.put, List.getElem_toArray, List.getElem_cons_succ, List.getElem_cons_zero, List.setIfInBounds_toArray, List.set_cons_zero, List.set_cons_succ]
  refine wpAnyH_take (i := 5) (v := ?_) rfl (by kernel_rfl) (by kernel_rfl) (by kernel_rfl) (fun _ _ _ h => h) (Or.inl ⟨by rfl, ?_⟩) (by assumption) ?_
  rotate_left
  · intro w hSw
    (try dsimp only at hSw)
    go_simp
    all_goals with_reducible rfl
  try simp only [Act.put, List.getElem_toArray, List.getElem_cons_succ, List.getElem_cons_zero, List.setIfInBounds_toArray, List.set_cons_zero, List.set_cons_succ]
  refine wpAnyH_take (i := 6) (v := ?_) rfl (by kernel_rfl) (by kernel_rfl) (by kernel_rfl) (fun _ _ _ h => h) (Or.inl ⟨by rfl, ?_⟩) (by assumption) ?_
  rotate_left
  · intro w hSw
    (try dsimp only at hSw)
    go_simp
    all_goals with_reducible rfl
  try simp only [Act.put, List.getElem_toArray, List.getElem_cons_succ, List.getElem_cons_zero, List.setIfInBounds_toArray, List.set_cons_zero, List.set_cons_succ]
  refine wpAnyH_take (i := 7) (v := ?_) rfl (by kernel_rfl) (by kernel_rfl) (by kernel_rfl) (fun _ _ _ h => h) (Or.inl ⟨by rfl, ?_⟩) (by assumption) ?_
  rotate_left
  · intro w hSw
    (try dsimp only at hSw)
    go_simp
    all_goals with_reducible rfl
  try simp only [Act.put, List.getElem_toArray, List.getElem_cons_succ, List.getElem_cons_zero, List.setIfInBounds_toArray, List.set_cons_zero, List.set_cons_succ]
  refine wpAnyH_take (i := 8) (v := ?_) rfl (by kernel_rfl) (by kernel_rfl) (by kernel_rfl) (fun _ _ _ h => h) (Or.inl ⟨by rfl, ?_⟩) (by assumption) ?_
  rotate_left
  · intro w hSw
    (try dsimp only at hSw)
    go_simp
    all_goals with_reducible rfl
  try simp only [Act.put, List.getElem_toArray, List.getElem_cons_succ, List.getElem_cons_zero, List.setIfInBounds_toArray, List.set_cons_zero, List.set_cons_succ]
  refine wpAnyH_ready (rs := [9]) (by kernel_rfl) (by simp) ?_
  refine AllReadyH.cons rfl (fun K hK => ?_) AllReadyH.nil
  rw [if_pos (by rfl)]
  go_simp
  go_at_call 74
  refine (C.out).mono ?_
  rintro e w1 ⟨rfl, h1⟩
  clear C
  have H := Lib.hid h1
  clear h1
  refine hK.out _ _ ?_ (fun hHeld => ?_)
  · exact ((H.out.cell HJ.out).1)
  clear hK K
  try simp only [Act.put, List.getElem_toArray, List.getElem_cons_succ, List.getElem_cons_zero, List.setIfInBounds_toArray, List.set_cons_zero, List.set_cons_succ]
  refine wpAnyH_take (i := 10) (v := ?_) rfl (by kernel_rfl) (by kernel_rfl) (by kernel_rfl) (fun _ _ _ h => h) (Or.inl ⟨by rfl, ?_⟩) (by assumption) ?_
  rotate_left
  · intro w hSw
    (try dsimp only at hSw)
    go_simp
    all_goals with_reducible rfl
  try simp only [Act.put, List.getElem_toArray, List.getElem_cons_succ, List.getElem_cons_zero, List.setIfInBounds_toArray, List.set_cons_zero, List.set_cons_succ]
  refine wpAnyH_done (by kernel_rfl) ?_ _
  clear hHeld
  obtain ⟨k1, z1⟩ := H.out.cell HJ.out
  clear k0
  by_cases h0 : n = 0
  · subst h0
    go_wp2_with fail
    go_loopw [31] (fun i wx => i = .int .i64 0 ∧ wx = w1) (fun _ _ => 0)
    case atStart => exact ⟨rfl, rfl⟩
    case round =>
      obtain ⟨rfl, rfl⟩ := hrel
      go_wp2
      go_end0
      refine ⟨rfl, none, 0, ?_, ?_, (fun k o e => by cases e), H.out.but.size⟩
      · rw [HG.out.2, HG.out.1]
        show RB _ _ _ _ _ (putAll cs [(j, .slice none 0 0)]) t O
        rw [putAll_same HJ.out]; exact H0.out.then_ H.out
      · rw [HG.out.2, HG.out.1]; exact PRow.nil_
  · have n0 : ((n : Int) == 0) = false := by simp; omega
    obtain ⟨i8, hi8, hz0, hz1, hz2⟩ := info_parts info_slot
    go_wp2_with (at_make; refine wpList_make_full _ rfl (.tmp 27) (.tmp 27) 23 rfl w1.heap.size 83 i8 (.agg #[.int .i64 0, .int .i64 0]) 2 Try.underlying23 hi8 hz0 hz1 .i64 .i64 _ _ n rfl rfl rfl rfl (by rw [hz2]; omega) (by unfold maxLen; omega) (Nat.le_refl _) ?_; intro w3 hown hg; have h3 := H.out.on (Below.grown (Below.refl _ _) hg (Nat.le_refl _) (fun k hk => by cases hk)); have hx := made_row hown; obtain ⟨k3, z3⟩ := h3.cell HJ.out; have H3 := Lib.hid (And.intro h3 hx); clear k1 z1 hown hg h3 hx)
    have hs3 : w1.heap.size < w3.heap.size := lt_of_heap H3.out.2
    have hrow : (w3.setCell ⟨b, j, none⟩ (.slice (some ⟨w1.heap.size, 0, none⟩) n n)).heap[w1.heap.size]? = some (.cells (rowA n []) 83 (0, 0)) :=
      (Below.heap_setCell _ _ _ _ (by have := H.out.lt; show w1.heap.size ≠ b; omega)).trans H3.out.2
    have hset := H3.out.1.set_ j (.slice (some ⟨w1.heap.size, 0, none⟩) n n)
    have hrO : ¬ O w1.heap.size := fun ho => by have := H.out.rdr.lt _ ho; omega
    have hbr : b ≠ w1.heap.size := by have := H.out.lt; omega
    have hqk := hset.keep HQ.out.1 HQ.out.2.1 HQ.out.2.2
    have hqr : q ≠ w1.heap.size := by
      have e1 := block_lt_of_cell HQ.out.1
      have e2 := H.out.but.size
      simp only at e1; omega
    have HR := Lib.hid (RB.start (b := w1.heap.size) hset.rdr hrow hrO)
    have hc := (hset.cell (put_at HJ.out)).1
    have HS := Lib.hid (And.intro hset (And.intro hqk (And.intro hqr (And.intro hbr (And.intro hrO (And.intro hc H.out.but.size))))))
    clear hset hrow hqk hqr hbr hrO hc hs3 k3 z3
    generalize w3.setCell ⟨b, j, none⟩ (.slice (some ⟨w1.heap.size, 0, none⟩) n n) = wS at *
    generalize w1.heap.size = r at *
    have HC : Hid (∀ wx cs' s', RB wS wx g r 83 cs' s' O → wx.cell? ⟨b, j, none⟩ = some (.slice (some ⟨r, 0, none⟩) n n)) := fun wx cs' s' k => k.keep HS.out.2.2.2.2.2.1 HS.out.1.far HS.out.2.2.2.1
    go_loopw [31] (fun i wx => ∃ k : Nat, k ≤ n ∧ i = .int .i64 (k : Int) ∧ RB wS wx g r 83 (rowA n (rowsR k t).1) (rowsR k t).2 O) (fun i _ => n - (intOf i).toNat)
    case atStart => exact ⟨0, Nat.zero_le _, rfl, HR.out⟩
    case round =>
      obtain ⟨k, hk, rfl, hm⟩ := hrel
      have k5 := HC.out _ _ _ hm
      by_cases hlt : k < n
      · have hlt' : (k : Int) < (n : Int) := by omega
        have HL := Lib.hid (And.intro hk hlt)
        have C := Lib.hid (rrow2_any (u := k * 2) hm HS.out.2.1 HQ.out.2.1 HS.out.2.2.1 (by rw [rowA_size]; omega))
        have HZ := Lib.hid (And.intro (rowsR_snoc k t) (rowsR_len k t))
        clear hm
        go_wp2_with fail
        refine C.out.mono ?_
        rintro e w2 ⟨rfl, h2⟩
        have H2 := Lib.hid h2
        clear h2 C
        go_wp2
        go_roundw
        case rel =>
          refine ⟨k + 1, by have := HL.out; omega, by go_num, ?_⟩
          have h9 := H2.out
          have e9 := rowA_put n (rowsR k t).1 (rowsR k t).2.num.1 (rowsR k t).2.num.2.num.1 (by rw [HZ.out.2]; exact HL.out.2)
          rw [HZ.out.2] at e9
          rw [e9] at h9
          rw [HZ.out.1]
          exact h9
        case measure => have := HL.out; simp [intOf]; omega
      · have hlt' : ¬ (k : Int) < (n : Int) := by omega
        have ek : k = n := by omega
        subst ek
        have HB := Lib.hid hm
        clear hm
        go_wp2
        go_end0
        have h9 := HS.out.1.switch HB.out HS.out.2.2.2.2.2.2 HS.out.2.2.2.1
        refine ⟨rfl, some ⟨r, 0, none⟩, k, ?_, ?_, (fun k o e => by injection e with e; injection e with e; have := HS.out.2.2.2.2.2.2; omega), h9.but.size⟩
        · rw [HG.out.2, HG.out.1]; exact H0.out.then_ h9
        · rw [HG.out.2, HG.out.1]
          exact PRow.new_ HB.out.cells (rowsR_len _ _) (by unfold maxLen; omega)
end Go.Proofs.Ytnpakjdgcmbcnaa
