/- Variables of states; the document's pid, over any policy value. -/
import Derived.Test.YtpgjjdpblilljaaPdB
import Derived.Test.YtpgjjdpblilljaaTake
namespace Go.Proofs.Ytpgjjdpblilljaa
set_option linter.unusedSimpArgs false
set_option linter.unusedVariables false
open Go.RowKit
open Fx Pd
attribute [local go_sem] Oper.semAt_some

def stV (s e : Int) (h : Bool) : Value := .agg #[.int .i64 s, .int .i64 e, .bool h]
/-- A variable of a state. -/
def StAt (w : World) (g : Nat) (s e : Int) (h : Bool) : Prop := w.heap[g]? = some (.cells #[.int .i64 s, .int .i64 e, .bool h] 27 (0, 0))
theorem StAt.on {w x : World} {g : Nat} {s e : Int} {h : Bool} (k : StAt w g s e h) (hb : Below w.heap.size w x) : StAt x g s e h := (hb.block g (lt_of_heap k)).trans k
theorem StAt.c {w x : World} {g : Nat} {s e : Int} {h : Bool} (k : StAt w g s e h) (hb : Below w.heap.size w x) :
    x.cell? ⟨g, 0, none⟩ = some (.int .i64 s) ∧ x.cell? ⟨g, 1, none⟩ = some (.int .i64 e) ∧ x.cell? ⟨g, 2, none⟩ = some (.bool h) ∧ Below w.heap.size w x :=
  ⟨(cell_of_row _ _ _ _ _ _ (k.on hb)).trans rfl, (cell_of_row _ _ _ _ _ _ (k.on hb)).trans rfl, (cell_of_row _ _ _ _ _ _ (k.on hb)).trans rfl, hb⟩
/-- What 'x, n := Next(..)' leaves. -/
def NewS (w0 : World) (s e n : Int) (t u : Value) (x : World) : Prop := ∃ g, t = .pointer (some ⟨g, 0, none⟩) ∧ u = .int .i64 n ∧ w0.heap.size ≤ g ∧ StAt x g s e true ∧ Below w0.heap.size w0 x
theorem qd {P : Program} {f : FuncId} {a : Array Value} {w : World} {v : Value} (h : Calls P f a w fun e w' => e = .returned v ∧ w' = w) : Calls P f a w fun e w' => e = .returned v ∧ w = w' := h.mono fun _ _ ⟨h1, h2⟩ => ⟨h1, h2.symm⟩
theorem ret_i64' {a b : Int} (h : a = b) : Ending.returned (.int .i64 a) = .returned (.int .i64 b) := by rw [h]
theorem RX.c {w : World} (P S Z : Array Value) (tp ts : TypeId) {a b : Value} (h3 : P[3]? = some a) (h4 : P[4]? = some b) :
    (((w.alloc (.cells P tp)).alloc (.cells S ts)).alloc (.cells Z ts)).drew.cell? ⟨w.heap.size, 3, none⟩ = some a ∧ (((w.alloc (.cells P tp)).alloc (.cells S ts)).alloc (.cells Z ts)).drew.cell? ⟨w.heap.size, 4, none⟩ = some b := by
  have h : (((w.alloc (.cells P tp)).alloc (.cells S ts)).alloc (.cells Z ts)).drew.heap[w.heap.size]? = some (.cells P tp (0, 0)) := by
    show (((w.alloc (.cells P tp)).alloc (.cells S ts)).alloc (.cells Z ts)).heap[w.heap.size]? = _
    rw [heap_alloc_old _ _ (by simp; omega), heap_alloc_old _ _ (by simp)]
    exact heap_alloc_new _ _
  exact ⟨(cell_of_row _ _ _ _ _ _ h).trans h3, (cell_of_row _ _ _ _ _ _ h).trans h4⟩
theorem RX.z (w : World) (P S Z : Array Value) (tp ts tz : TypeId) : (((w.alloc (.cells P tp)).alloc (.cells S ts)).alloc (.cells Z tz)).drew.heap[w.heap.size + 1 + 1]? = some (.cells Z tz (0, 0)) := by
  show (((w.alloc (.cells P tp)).alloc (.cells S ts)).alloc (.cells Z tz)).heap[w.heap.size + 1 + 1]? = _
  have e : w.heap.size + 1 + 1 = ((w.alloc (.cells P tp)).alloc (.cells S ts)).heap.size := by simp
  rw [e]
  exact heap_alloc_new _ _
theorem RX.b (w : World) (P S Z : Array Value) (tp ts tz : TypeId) : Below w.heap.size w (((w.alloc (.cells P tp)).alloc (.cells S ts)).alloc (.cells Z tz)).drew :=
  Below.drew ((((Below.refl _ _).alloc (Nat.le_refl _) _).alloc (by simp) _).alloc (by simp; omega) _)
set_option maxRecDepth 100000 in
set_option maxHeartbeats 1600000 in
theorem rnext_any (k b pe sl : Value) (t kp ki kd s p : Int) (h : Bool) (u : Int) (w : World) :
    Calls Try.prog 18 #[.agg #[k, .int .i64 t, b, .int .i64 kp, .int .i64 ki, .int .i64 kd, pe, sl], stV s p h, .int .i64 u] w fun r w' =>
      r = .returned (.tuple #[stV (add s (sub u t)) (sub u t) true, .int .i64 (wnt kp ki kd (sub u t) (add s (sub u t)) (chg h (sub u t) p))]) ∧ Below w.heap.size w w' := by
  have HW : Hid (∀ e s c : Int, wnt kp ki kd e s c = min (max (near (add (add (mul kp e) (mul ki s)) (mul kd c))) (-1000)) 1000) := by
    show ∀ e s c : Int, _
    intro e s c; unfold wnt bnd; omega
  obtain ⟨e, he⟩ : ∃ e, e = sub u t := ⟨_, rfl⟩
  rw [← he]
  obtain ⟨s2, hs⟩ : ∃ s2, s2 = add s e := ⟨_, rfl⟩
  rw [← hs]
  obtain ⟨c, hc⟩ : ∃ c, c = chg h e p := ⟨_, rfl⟩
  rw [← hc]
  have HE := Lib.hid he.symm
  have HS := Lib.hid hs.symm
  have HC := Lib.hid hc.symm
  have HV := Lib.hid (near_le (add (add (mul kp e) (mul ki s2)) (mul kd c)))
  clear he hs hc
  unfold stV
  cases h
  · have hc : c = 0 := HC.out.symm
    subst hc
    clear HC
    go_enter Try.func18, Try.ntmps18
    go_wp2_with fail
    refine (rsub_any u t _).mono ?_
    rintro e' w9 ⟨rfl, rfl⟩
    rw [HE.out]
    go_wp2_with fail
    refine (radd_any s e _).mono ?_
    rintro e' w9 ⟨rfl, rfl⟩
    rw [HS.out]
    go_upto_region 6 with fail
    refine wp_region_held_drew (S := fun x => x.cell? ⟨w.heap.size, 3, none⟩ = some (.int .i64 kp) ∧ x.cell? ⟨w.heap.size, 4, none⟩ = some (.int .i64 ki)) (by kernel_rfl) (RX.c _ _ _ _ _ rfl rfl) (fun hHeld => ?_)
    refine wpAnyH_take (i := 0) (v := ?_) rfl (by kernel_rfl) (by kernel_rfl) (by kernel_rfl) (fun _ _ _ h => h) (Or.inl ⟨by rfl, ?_⟩) (by assumption) ?_
    rotate_left
    · intro w hSw
      (try dsimp only at hSw)
      go_simp
      all_goals with_reducible rfl
    try simp only [Act.put, List.getElem_toArray, List.getElem_cons_succ, List.getElem_cons_zero, List.setIfInBounds_toArray, List.set_cons_zero, List.set_cons_succ]
    refine wpAnyH_take (i := 1) (v := ?_) rfl (by kernel_rfl) (by kernel_rfl) (by kernel_rfl) (fun _ _ _ h => h) (Or.inl ⟨by rfl, ?_⟩) (by assumption) ?_
    rotate_left
    · intro w hSw
      (try dsimp only at hSw)
      go_simp
      all_goals with_reducible rfl
    try simp only [Act.put, List.getElem_toArray, List.getElem_cons_succ, List.getElem_cons_zero, List.setIfInBounds_toArray, List.set_cons_zero, List.set_cons_succ]
    refine wpAnyH_take (i := 2) (v := ?_) rfl (by kernel_rfl) (by kernel_rfl) (by kernel_rfl) (fun _ _ _ h => h) (Or.inl ⟨by rfl, ?_⟩) (by assumption) ?_
    rotate_left
    · intro w hSw
      (try dsimp only at hSw)
      go_simp
      all_goals with_reducible rfl
    try simp only [Act.put, List.getElem_toArray, List.getElem_cons_succ, List.getElem_cons_zero, List.setIfInBounds_toArray, List.set_cons_zero, List.set_cons_succ]
    refine wpAnyH_take (i := 4) (v := ?_) rfl (by kernel_rfl) (by kernel_rfl) (by kernel_rfl) (fun _ _ _ h => h) (Or.inl ⟨by rfl, ?_⟩) (by assumption) ?_
    rotate_left
    · intro w hSw
      (try dsimp only at hSw)
      go_simp
      all_goals with_reducible rfl
    try simp only [Act.put, List.getElem_toArray, List.getElem_cons_succ, List.getElem_cons_zero, List.setIfInBounds_toArray, List.set_cons_zero, List.set_cons_succ]
    refine wpAnyH_take (i := 5) (v := ?_) rfl (by kernel_rfl) (by kernel_rfl) (by kernel_rfl) (fun _ _ _ h => h) (Or.inl ⟨by rfl, ?_⟩) (by assumption) ?_
    rotate_left
    · intro w hSw
      (try dsimp only at hSw)
      go_simp
      all_goals with_reducible rfl
    try simp only [Act.put, List.getElem_toArray, List.getElem_cons_succ, List.getElem_cons_zero, List.setIfInBounds_toArray, List.set_cons_zero, List.set_cons_succ]
    refine wpAnyH_take (i := 6) (v := ?_) rfl (by kernel_rfl) (by kernel_rfl) (by kernel_rfl) (fun _ _ _ h => h) (Or.inl ⟨by rfl, ?_⟩) (by assumption) ?_
    rotate_left
    · intro w hSw
      (try dsimp only at hSw)
      go_simp
      all_goals with_reducible rfl
    try simp only [Act.put, List.getElem_toArray, List.getElem_cons_succ, List.getElem_cons_zero, List.setIfInBounds_toArray, List.set_cons_zero, List.set_cons_succ]
    refine take_first (i := 3) rfl (by kernel_rfl) (by kernel_rfl) (by kernel_rfl) (fun _ _ _ h => h) (GivesIf.call (by rfl) (fun w => ?_) (fun w hS => qd (rmul_any kp e w))) (by assumption) ?_
    · go_simp
      all_goals with_reducible rfl
    try simp only [Act.put, List.getElem_toArray, List.getElem_cons_succ, List.getElem_cons_zero, List.setIfInBounds_toArray, List.set_cons_zero, List.set_cons_succ]
    refine take_first (i := 7) rfl (by kernel_rfl) (by kernel_rfl) (by kernel_rfl) (fun _ _ _ h => h) (GivesIf.call (by rfl) (fun w => ?_) (fun w hS => qd (rmul_any ki s2 w))) (by assumption) ?_
    · go_simp
      all_goals with_reducible rfl
    try simp only [Act.put, List.getElem_toArray, List.getElem_cons_succ, List.getElem_cons_zero, List.setIfInBounds_toArray, List.set_cons_zero, List.set_cons_succ]
    refine take_first (i := 8) rfl (by kernel_rfl) (by kernel_rfl) (by kernel_rfl) (fun _ _ _ h => h) (GivesIf.call (by rfl) (fun w => ?_) (fun w hS => qd (radd_any (mul kp e) (mul ki s2) w))) (by assumption) ?_
    · go_simp
      all_goals with_reducible rfl
    try simp only [Act.put, List.getElem_toArray, List.getElem_cons_succ, List.getElem_cons_zero, List.setIfInBounds_toArray, List.set_cons_zero, List.set_cons_succ]
    refine wpAnyH_take (i := 9) (v := ?_) rfl (by kernel_rfl) (by kernel_rfl) (by kernel_rfl) (fun _ _ _ h => h) (Or.inl ⟨by rfl, ?_⟩) (by assumption) ?_
    rotate_left
    · intro w hSw
      (try dsimp only at hSw)
      go_simp
      all_goals with_reducible rfl
    try simp only [Act.put, List.getElem_toArray, List.getElem_cons_succ, List.getElem_cons_zero, List.setIfInBounds_toArray, List.set_cons_zero, List.set_cons_succ]
    refine wpAnyH_done (by kernel_rfl) ?_ _
    go_wp2_with fail
    refine (rmul_any kd 0 _).mono ?_
    rintro e' w9 ⟨rfl, rfl⟩
    go_wp2_with fail
    refine (radd_any (add (mul kp e) (mul ki s2)) (mul kd 0) _).mono ?_
    rintro e' w9 ⟨rfl, rfl⟩
    go_wp2_with fail
    refine (rnear_any (add (add (mul kp e) (mul ki s2)) (mul kd 0)) _).mono ?_
    rintro e' w9 ⟨rfl, rfl⟩
    have HG := Lib.hid (HW.out e s2 0).symm
    have hv := HV.out
    generalize near (add (add (mul kp e) (mul ki s2)) (mul kd 0)) = n at *
    have hw : IntKind.i64.wrap (min (max n (-1000)) 1000) = min (max n (-1000)) 1000 := by rw [IntKind.wrap_i64]; omega
    clear hv
    go_wp2
    refine bodyPost_ret (results_row_tmp1 rfl _ _ (w.heap.size + 1 + 1) _ _ _ _ rfl (RX.z _ _ _ _ _ _ _) Try.underlying27 (by rfl) (by kernel_rfl)) (by rfl) ?_
    exact ⟨ret_tup2i HG.out, RX.b _ _ _ _ _ _ _⟩
  · have HC : Hid (sub e p = c) := HC.out
    go_enter Try.func18, Try.ntmps18
    go_wp2_with fail
    refine (rsub_any u t _).mono ?_
    rintro e' w9 ⟨rfl, rfl⟩
    rw [HE.out]
    go_wp2_with fail
    refine (radd_any s e _).mono ?_
    rintro e' w9 ⟨rfl, rfl⟩
    rw [HS.out]
    go_wp2_with fail
    refine (rsub_any e p _).mono ?_
    rintro e' w9 ⟨rfl, rfl⟩
    rw [HC.out]
    go_upto_region 6 with fail
    refine wp_region_held_drew (S := fun x => x.cell? ⟨w.heap.size, 3, none⟩ = some (.int .i64 kp) ∧ x.cell? ⟨w.heap.size, 4, none⟩ = some (.int .i64 ki)) (by kernel_rfl) (RX.c _ _ _ _ _ rfl rfl) (fun hHeld => ?_)
    refine wpAnyH_take (i := 0) (v := ?_) rfl (by kernel_rfl) (by kernel_rfl) (by kernel_rfl) (fun _ _ _ h => h) (Or.inl ⟨by rfl, ?_⟩) (by assumption) ?_
    rotate_left
    · intro w hSw
      (try dsimp only at hSw)
      go_simp
      all_goals with_reducible rfl
    try simp only [Act.put, List.getElem_toArray, List.getElem_cons_succ, List.getElem_cons_zero, List.setIfInBounds_toArray, List.set_cons_zero, List.set_cons_succ]
    refine wpAnyH_take (i := 1) (v := ?_) rfl (by kernel_rfl) (by kernel_rfl) (by kernel_rfl) (fun _ _ _ h => h) (Or.inl ⟨by rfl, ?_⟩) (by assumption) ?_
    rotate_left
    · intro w hSw
      (try dsimp only at hSw)
      go_simp
      all_goals with_reducible rfl
    try simp only [Act.put, List.getElem_toArray, List.getElem_cons_succ, List.getElem_cons_zero, List.setIfInBounds_toArray, List.set_cons_zero, List.set_cons_succ]
    refine wpAnyH_take (i := 2) (v := ?_) rfl (by kernel_rfl) (by kernel_rfl) (by kernel_rfl) (fun _ _ _ h => h) (Or.inl ⟨by rfl, ?_⟩) (by assumption) ?_
    rotate_left
    · intro w hSw
      (try dsimp only at hSw)
      go_simp
      all_goals with_reducible rfl
    try simp only [Act.put, List.getElem_toArray, List.getElem_cons_succ, List.getElem_cons_zero, List.setIfInBounds_toArray, List.set_cons_zero, List.set_cons_succ]
    refine wpAnyH_take (i := 4) (v := ?_) rfl (by kernel_rfl) (by kernel_rfl) (by kernel_rfl) (fun _ _ _ h => h) (Or.inl ⟨by rfl, ?_⟩) (by assumption) ?_
    rotate_left
    · intro w hSw
      (try dsimp only at hSw)
      go_simp
      all_goals with_reducible rfl
    try simp only [Act.put, List.getElem_toArray, List.getElem_cons_succ, List.getElem_cons_zero, List.setIfInBounds_toArray, List.set_cons_zero, List.set_cons_succ]
    refine wpAnyH_take (i := 5) (v := ?_) rfl (by kernel_rfl) (by kernel_rfl) (by kernel_rfl) (fun _ _ _ h => h) (Or.inl ⟨by rfl, ?_⟩) (by assumption) ?_
    rotate_left
    · intro w hSw
      (try dsimp only at hSw)
      go_simp
      all_goals with_reducible rfl
    try simp only [Act.put, List.getElem_toArray, List.getElem_cons_succ, List.getElem_cons_zero, List.setIfInBounds_toArray, List.set_cons_zero, List.set_cons_succ]
    refine wpAnyH_take (i := 6) (v := ?_) rfl (by kernel_rfl) (by kernel_rfl) (by kernel_rfl) (fun _ _ _ h => h) (Or.inl ⟨by rfl, ?_⟩) (by assumption) ?_
    rotate_left
    · intro w hSw
      (try dsimp only at hSw)
      go_simp
      all_goals with_reducible rfl
    try simp only [Act.put, List.getElem_toArray, List.getElem_cons_succ, List.getElem_cons_zero, List.setIfInBounds_toArray, List.set_cons_zero, List.set_cons_succ]
    refine take_first (i := 3) rfl (by kernel_rfl) (by kernel_rfl) (by kernel_rfl) (fun _ _ _ h => h) (GivesIf.call (by rfl) (fun w => ?_) (fun w hS => qd (rmul_any kp e w))) (by assumption) ?_
    · go_simp
      all_goals with_reducible rfl
    try simp only [Act.put, List.getElem_toArray, List.getElem_cons_succ, List.getElem_cons_zero, List.setIfInBounds_toArray, List.set_cons_zero, List.set_cons_succ]
    refine take_first (i := 7) rfl (by kernel_rfl) (by kernel_rfl) (by kernel_rfl) (fun _ _ _ h => h) (GivesIf.call (by rfl) (fun w => ?_) (fun w hS => qd (rmul_any ki s2 w))) (by assumption) ?_
    · go_simp
      all_goals with_reducible rfl
    try simp only [Act.put, List.getElem_toArray, List.getElem_cons_succ, List.getElem_cons_zero, List.setIfInBounds_toArray, List.set_cons_zero, List.set_cons_succ]
    refine take_first (i := 8) rfl (by kernel_rfl) (by kernel_rfl) (by kernel_rfl) (fun _ _ _ h => h) (GivesIf.call (by rfl) (fun w => ?_) (fun w hS => qd (radd_any (mul kp e) (mul ki s2) w))) (by assumption) ?_
    · go_simp
      all_goals with_reducible rfl
    try simp only [Act.put, List.getElem_toArray, List.getElem_cons_succ, List.getElem_cons_zero, List.setIfInBounds_toArray, List.set_cons_zero, List.set_cons_succ]
    refine wpAnyH_take (i := 9) (v := ?_) rfl (by kernel_rfl) (by kernel_rfl) (by kernel_rfl) (fun _ _ _ h => h) (Or.inl ⟨by rfl, ?_⟩) (by assumption) ?_
    rotate_left
    · intro w hSw
      (try dsimp only at hSw)
      go_simp
      all_goals with_reducible rfl
    try simp only [Act.put, List.getElem_toArray, List.getElem_cons_succ, List.getElem_cons_zero, List.setIfInBounds_toArray, List.set_cons_zero, List.set_cons_succ]
    refine wpAnyH_done (by kernel_rfl) ?_ _
    go_wp2_with fail
    refine (rmul_any kd c _).mono ?_
    rintro e' w9 ⟨rfl, rfl⟩
    go_wp2_with fail
    refine (radd_any (add (mul kp e) (mul ki s2)) (mul kd c) _).mono ?_
    rintro e' w9 ⟨rfl, rfl⟩
    go_wp2_with fail
    refine (rnear_any (add (add (mul kp e) (mul ki s2)) (mul kd c)) _).mono ?_
    rintro e' w9 ⟨rfl, rfl⟩
    have HG := Lib.hid (HW.out e s2 c).symm
    have hv := HV.out
    generalize near (add (add (mul kp e) (mul ki s2)) (mul kd c)) = n at *
    have hw : IntKind.i64.wrap (min (max n (-1000)) 1000) = min (max n (-1000)) 1000 := by rw [IntKind.wrap_i64]; omega
    clear hv
    go_wp2
    refine bodyPost_ret (results_row_tmp1 rfl _ _ (w.heap.size + 1 + 1) _ _ _ _ rfl (RX.z _ _ _ _ _ _ _) Try.underlying27 (by rfl) (by kernel_rfl)) (by rfl) ?_
    exact ⟨ret_tup2i HG.out, RX.b _ _ _ _ _ _ _⟩
end Go.Proofs.Ytpgjjdpblilljaa
