/- Contracts of pid, the program's and the document's. -/
import Derived.Test.YtpgjjdpblilljaaPdA
import Derived.Test.YtpgjjdpblilljaaFxN
import Derived.Test.YtpgjjdpblilljaaFxO
import Derived.Test.YtpgjjdpblilljaaFxV
import Derived.Test.YtpgjjdpblilljaaHeld
import Derived.Deep.CutRange
namespace Go.Proofs.Ytpgjjdpblilljaa
set_option linter.unusedSimpArgs false
set_option linter.unusedVariables false
open Go.RowKit
open Fx Pd
attribute [local go_sem] Oper.semAt_some

theorem results_row_tmp1 {P : Program} {fn : Func} {p u : Tmp} {ty : TypeId} (h : fn.results = #[.cell p ty, .tmp u]) (tmps : Array Value) (w : World) (g : Nat) (t : TypeId) (cs : Array Value) (fr : Nat × Nat) (d : TypeDesc)
    (hp : tmps.getD p undef = .pointer (some ⟨g, 0, none⟩)) (hg : w.heap[g]? = some (.cells cs t fr))
    (hu : P.underlying ty = some d) (hd : (match d with | .struct _ | .array _ _ => true | _ => false) = true) (hi : (P.info? ty).map (·.size) = some cs.size) :
    (results fn tmps).run P w = .ok (.tuple #[.agg cs, tmps.getD u undef]) w := by
  have hp' : tmps[p]?.getD undef = .pointer (some ⟨g, 0, none⟩) := by simpa using hp
  simp [results, h, hp', asAddr, run_loadVar_row w g t ty cs fr d hg hu hd hi]
theorem bel2' {B : Nat} {w x y : World} (h : Below B w x) (k : Below x.heap.size x y) (hB : B ≤ x.heap.size) : Below B w y := h.trans (k.mono hB)
theorem ret_tup2i {v : Value} {a b : Int} (h : a = b) : Ending.returned (.tuple #[v, .int .i64 a]) = .returned (.tuple #[v, .int .i64 b]) := by rw [h]

def smT (a b c : Int) : Nat → Int
  | 0 => 0
  | 1 => add 0 a
  | 2 => add (add 0 a) b
  | _ => add (add (add 0 a) b) c
set_option maxRecDepth 100000 in
theorem summed_any (a b c : Int) (g : Nat) (w : World) (h0 : w.cell? ⟨g, 0, none⟩ = some (.int .i64 a)) (h1 : w.cell? ⟨g, 1, none⟩ = some (.int .i64 b)) (h2 : w.cell? ⟨g, 2, none⟩ = some (.int .i64 c)) :
    Calls Try.prog 56 #[.slice (some ⟨g, 0, none⟩) 3 3] w fun e w' => e = .returned (.int .i64 (add (add (add 0 a) b) c)) ∧ w' = w := by
  go_enter Try.func56, Try.ntmps56
  go_wp2_with fail
  go_loopw [3, 8] (fun s i wx => ∃ k : Nat, k ≤ 3 ∧ i = .int .i64 (k : Int) ∧ s = .int .i64 (smT a b c k) ∧ wx = w) (fun _ i _ => 3 - (intOf i).toNat)
  case atStart => exact ⟨0, Nat.zero_le _, rfl, rfl, rfl⟩
  case round =>
    obtain ⟨k, hk, rfl, rfl, rfl⟩ := hrel
    match k, hk with
    | 0, _ =>
      go_wp2_with fail
      refine (add_any _ _ _).mono ?_
      rintro e w9 ⟨rfl, rfl⟩
      go_wp2
      go_roundw
      case rel => exact ⟨1, by decide, rfl, by trivial⟩
      case measure => simp [intOf]
    | 1, _ =>
      go_wp2_with fail
      refine (add_any _ _ _).mono ?_
      rintro e w9 ⟨rfl, rfl⟩
      go_wp2
      go_roundw
      case rel => exact ⟨2, by decide, rfl, by trivial⟩
      case measure => simp [intOf]
    | 2, _ =>
      go_wp2_with fail
      refine (add_any _ _ _).mono ?_
      rintro e w9 ⟨rfl, rfl⟩
      go_wp2
      go_roundw
      case rel => exact ⟨3, by decide, rfl, by trivial⟩
      case measure => simp [intOf]
    | 3, _ =>
      go_wp2
      go_ret
      exact ⟨rfl, rfl⟩
/-- What the midst of Next knows of its memory: the policy, the new state, the result's block. -/
structure NX (w x : World) (P N : Array Value) : Prop where
  bel : Below w.heap.size w x
  le : w.heap.size + 4 ≤ x.heap.size
  hp : x.heap[w.heap.size]? = some (.cells P 25 (0, 0))
  hn : x.heap[w.heap.size + 1 + 1 + 1]? = some (.cells N 27 (0, 0))
  hz : x.heap[w.heap.size + 1 + 1]? = some (.cells #[.int .i64 0, .int .i64 0, .bool false] 27 (0, 0))
theorem NX.on {w x y : World} {P N : Array Value} (h : NX w x P N) (hb : Below x.heap.size x y) : NX w y P N :=
  ⟨h.bel.trans (hb.mono (by have := h.le; omega)), Nat.le_trans h.le hb.size, (hb.block _ (by have := h.le; omega)).trans h.hp, (hb.block _ (by have := h.le; omega)).trans h.hn, (hb.block _ (by have := h.le; omega)).trans h.hz⟩
theorem heap_drew (w : World) : w.drew.heap = w.heap := rfl
theorem NX.new (w : World) (P S N : Array Value) : NX w ((((w.alloc (.cells P 25)).alloc (.cells S 27)).alloc (.cells #[.int .i64 0, .int .i64 0, .bool false] 27)).alloc (.cells N 27)).drew P N := by
  obtain ⟨a, ha⟩ : ∃ a, a = w.alloc (.cells P 25) := ⟨_, rfl⟩
  obtain ⟨b, hb⟩ : ∃ b, b = a.alloc (.cells S 27) := ⟨_, rfl⟩
  obtain ⟨c, hc⟩ : ∃ c, c = b.alloc (.cells #[.int .i64 0, .int .i64 0, .bool false] 27) := ⟨_, rfl⟩
  obtain ⟨d, hd⟩ : ∃ d, d = c.alloc (.cells N 27) := ⟨_, rfl⟩
  have sa : a.heap.size = w.heap.size + 1 := by rw [ha]; simp
  have sb : b.heap.size = w.heap.size + 1 + 1 := by rw [hb]; simp [sa]
  have sc : c.heap.size = w.heap.size + 1 + 1 + 1 := by rw [hc]; simp [sb]
  have sd : d.heap.size = w.heap.size + 1 + 1 + 1 + 1 := by rw [hd]; simp [sc]
  have ba : Below w.heap.size w a := by rw [ha]; exact (Below.refl _ _).alloc (Nat.le_refl _) _
  have bb : Below a.heap.size a b := by rw [hb]; exact (Below.refl _ _).alloc (Nat.le_refl _) _
  have bc : Below b.heap.size b c := by rw [hc]; exact (Below.refl _ _).alloc (Nat.le_refl _) _
  have bd : Below c.heap.size c d := by rw [hd]; exact (Below.refl _ _).alloc (Nat.le_refl _) _
  rw [← ha, ← hb, ← hc, ← hd]
  have hp : a.heap[w.heap.size]? = some (.cells P 25 (0, 0)) := by rw [ha]; exact heap_alloc_new _ _
  have hz : c.heap[w.heap.size + 1 + 1]? = some (.cells #[.int .i64 0, .int .i64 0, .bool false] 27 (0, 0)) := by rw [hc, ← sb]; exact heap_alloc_new _ _
  have hn : d.heap[w.heap.size + 1 + 1 + 1]? = some (.cells N 27 (0, 0)) := by rw [hd, ← sc]; exact heap_alloc_new _ _
  refine ⟨Below.drew (((ba.trans (bb.mono (by omega))).trans (bc.mono (by omega))).trans (bd.mono (by omega))), by rw [heap_drew]; omega, ?_, hn, ?_⟩
  · show d.heap[_]? = _
    rw [bd.block _ (by omega), bc.block _ (by omega), bb.block _ (by omega), hp]
  · show d.heap[_]? = _
    rw [bd.block _ (by omega), hz]
def NXS (w : World) (k b pe sl : Value) (t kp ki kd s e : Int) (x : World) : Prop :=
  x.cell? ⟨w.heap.size, 3, none⟩ = some (.int .i64 kp) ∧ x.cell? ⟨w.heap.size, 4, none⟩ = some (.int .i64 ki) ∧ x.cell? ⟨w.heap.size, 5, none⟩ = some (.int .i64 kd) ∧ x.cell? ⟨w.heap.size + 1 + 1 + 1, 0, none⟩ = some (.int .i64 s) ∧
    NX w x #[k, .int .i64 t, b, .int .i64 kp, .int .i64 ki, .int .i64 kd, pe, sl] #[.int .i64 s, .int .i64 e, .bool true]
theorem NX.s {w x : World} {k b pe sl : Value} {t kp ki kd s e : Int} (h : NX w x #[k, .int .i64 t, b, .int .i64 kp, .int .i64 ki, .int .i64 kd, pe, sl] #[.int .i64 s, .int .i64 e, .bool true]) :
    NXS w k b pe sl t kp ki kd s e x :=
  ⟨(cell_of_row _ _ _ _ _ _ h.hp).trans rfl, (cell_of_row _ _ _ _ _ _ h.hp).trans rfl, (cell_of_row _ _ _ _ _ _ h.hp).trans rfl, (cell_of_row _ _ _ _ _ _ h.hn).trans rfl, h⟩
set_option maxRecDepth 100000 in
set_option maxHeartbeats 1600000 in
theorem next_at (k b pe sl : Value) (t kp ki kd sum prev : Int) (has : Bool) (u e s c : Int) (w : World) (HE : Hid (sub u t = e)) (HS : Hid (add sum e = s)) (HC : Hid (chg has e prev = c)) :
    Calls Try.prog 41 #[.agg #[k, .int .i64 t, b, .int .i64 kp, .int .i64 ki, .int .i64 kd, pe, sl], .agg #[.int .i64 sum, .int .i64 prev, .bool has], .int .i64 u] w fun r w' =>
      r = .returned (.tuple #[.agg #[.int .i64 s, .int .i64 e, .bool true], .int .i64 (wnt kp ki kd e s c)]) ∧ Below w.heap.size w w' := by
  have HN := Lib.hid (NX.new w)
  have HG : Hid (∀ (e s c : Int), max (-1000) (min (near (add (add (add 0 (mul kp e)) (mul ki s)) (mul kd c))) 1000) = wnt kp ki kd e s c) := by
    show ∀ (e s c : Int), _
    intro e s c; rw [add_zero_mul]; rfl
  cases has
  · have hc : c = 0 := HC.out.symm
    subst hc
    clear HC
    go_enter Try.func41, Try.ntmps41
    go_wp2_with fail
    refine (sub_any u t _).mono ?_
    rintro e' w9 ⟨rfl, rfl⟩
    rw [HE.out]
    go_wp2_with fail
    refine (add_any sum e _).mono ?_
    rintro e' w9 ⟨rfl, rfl⟩
    rw [HS.out]
    go_upto_region 6 with fail
    refine wp_region_held_drew (S := fun x => x.cell? ⟨w.heap.size, 3, none⟩ = some (.int .i64 kp) ∧ x.cell? ⟨w.heap.size, 4, none⟩ = some (.int .i64 ki) ∧ x.cell? ⟨w.heap.size, 5, none⟩ = some (.int .i64 kd) ∧ x.cell? ⟨w.heap.size + 1 + 1 + 1, 0, none⟩ = some (.int .i64 s) ∧ NX w x #[k, .int .i64 t, b, .int .i64 kp, .int .i64 ki, .int .i64 kd, pe, sl] #[.int .i64 s, .int .i64 e, .bool true]) (by kernel_rfl) (HN.out _ _ _).s (fun hHeld => ?_)
    clear HN
    have hHeld := hHeld.2.2.2.2
    refine wpAnyH_take (i := 0) (v := ?_) rfl (by kernel_rfl) (by kernel_rfl) (by kernel_rfl) (fun _ _ _ h => h) (Or.inl ⟨by rfl, ?_⟩) (by assumption) ?_
    rotate_left
    · intro w hSw
      (try dsimp only at hSw)
      go_simp
      all_goals with_reducible rfl
    try simp only [Act.put, List.getElem_toArray, List.getElem_cons_succ, List.getElem_cons_zero, List.setIfInBounds_toArray, List.set_cons_zero, List.set_cons_succ]
    refine wpAnyH_take (i := 1) (v := ?_) rfl (by kernel_rfl) (by kernel_rfl) (by kernel_rfl) (fun _ _ _ h => h) (Or.inl ⟨by rfl, ?_⟩) (by assumption) ?_
    rotate_left
    · intro w hSw
      (try dsimp only at hSw)
      go_simp
      all_goals with_reducible rfl
    try simp only [Act.put, List.getElem_toArray, List.getElem_cons_succ, List.getElem_cons_zero, List.setIfInBounds_toArray, List.set_cons_zero, List.set_cons_succ]
    refine wpAnyH_take (i := 2) (v := ?_) rfl (by kernel_rfl) (by kernel_rfl) (by kernel_rfl) (fun _ _ _ h => h) (Or.inl ⟨by rfl, ?_⟩) (by assumption) ?_
    rotate_left
    · intro w hSw
      (try dsimp only at hSw)
      go_simp
      all_goals with_reducible rfl
    try simp only [Act.put, List.getElem_toArray, List.getElem_cons_succ, List.getElem_cons_zero, List.setIfInBounds_toArray, List.set_cons_zero, List.set_cons_succ]
    refine wpAnyH_take (i := 4) (v := ?_) rfl (by kernel_rfl) (by kernel_rfl) (by kernel_rfl) (fun _ _ _ h => h) (Or.inl ⟨by rfl, ?_⟩) (by assumption) ?_
    rotate_left
    · intro w hSw
      (try dsimp only at hSw)
      go_simp
      all_goals with_reducible rfl
    try simp only [Act.put, List.getElem_toArray, List.getElem_cons_succ, List.getElem_cons_zero, List.setIfInBounds_toArray, List.set_cons_zero, List.set_cons_succ]
    refine wpAnyH_take (i := 5) (v := ?_) rfl (by kernel_rfl) (by kernel_rfl) (by kernel_rfl) (fun _ _ _ h => h) (Or.inl ⟨by rfl, ?_⟩) (by assumption) ?_
    rotate_left
    · intro w hSw
      (try dsimp only at hSw)
      go_simp
      all_goals with_reducible rfl
    try simp only [Act.put, List.getElem_toArray, List.getElem_cons_succ, List.getElem_cons_zero, List.setIfInBounds_toArray, List.set_cons_zero, List.set_cons_succ]
    refine wpAnyH_take (i := 6) (v := ?_) rfl (by kernel_rfl) (by kernel_rfl) (by kernel_rfl) (fun _ _ _ h => h) (Or.inl ⟨by rfl, ?_⟩) (by assumption) ?_
    rotate_left
    · intro w hSw
      (try dsimp only at hSw)
      go_simp
      all_goals with_reducible rfl
    try simp only [Act.put, List.getElem_toArray, List.getElem_cons_succ, List.getElem_cons_zero, List.setIfInBounds_toArray, List.set_cons_zero, List.set_cons_succ]
    refine wpAnyH_take (i := 7) (v := ?_) rfl (by kernel_rfl) (by kernel_rfl) (by kernel_rfl) (fun _ _ _ h => h) (Or.inl ⟨by rfl, ?_⟩) (by assumption) ?_
    rotate_left
    · intro w hSw
      (try dsimp only at hSw)
      go_simp
      all_goals with_reducible rfl
    try simp only [Act.put, List.getElem_toArray, List.getElem_cons_succ, List.getElem_cons_zero, List.setIfInBounds_toArray, List.set_cons_zero, List.set_cons_succ]
    refine wpAnyH_take (i := 9) (v := ?_) rfl (by kernel_rfl) (by kernel_rfl) (by kernel_rfl) (fun _ _ _ h => h) (Or.inl ⟨by rfl, ?_⟩) (by assumption) ?_
    rotate_left
    · intro w hSw
      (try dsimp only at hSw)
      go_simp
      all_goals with_reducible rfl
    try simp only [Act.put, List.getElem_toArray, List.getElem_cons_succ, List.getElem_cons_zero, List.setIfInBounds_toArray, List.set_cons_zero, List.set_cons_succ]
    refine wpAnyH_take (i := 10) (v := ?_) rfl (by kernel_rfl) (by kernel_rfl) (by kernel_rfl) (fun _ _ _ h => h) (Or.inl ⟨by rfl, ?_⟩) (by assumption) ?_
    rotate_left
    · intro w hSw
      (try dsimp only at hSw)
      go_simp
      all_goals with_reducible rfl
    try simp only [Act.put, List.getElem_toArray, List.getElem_cons_succ, List.getElem_cons_zero, List.setIfInBounds_toArray, List.set_cons_zero, List.set_cons_succ]
    refine wpAnyH_take (i := 11) (v := ?_) rfl (by kernel_rfl) (by kernel_rfl) (by kernel_rfl) (fun _ _ _ h => h) (Or.inl ⟨by rfl, ?_⟩) (by assumption) ?_
    rotate_left
    · intro w hSw
      (try dsimp only at hSw)
      go_simp
      all_goals with_reducible rfl
    try simp only [Act.put, List.getElem_toArray, List.getElem_cons_succ, List.getElem_cons_zero, List.setIfInBounds_toArray, List.set_cons_zero, List.set_cons_succ]
    refine wpAnyH_ready (rs := [3]) (by kernel_rfl) (by simp) ?_
    refine AllReadyH.cons rfl (fun K hK => ?_) AllReadyH.nil
    rw [if_pos (by rfl)]
    go_simp
    go_at_call 48
    refine (mul_any kp e _).mono ?_
    rintro e' w1 ⟨rfl, b1⟩
    have N1 := NX.on hHeld b1
    clear b1 hHeld
    refine hK.out _ _ ?_ (fun hHeld => ?_)
    · exact N1.s
    clear hK K
    try simp only [Act.put, List.getElem_toArray, List.getElem_cons_succ, List.getElem_cons_zero, List.setIfInBounds_toArray, List.set_cons_zero, List.set_cons_succ]
    refine wpAnyH_ready (rs := [8]) (by kernel_rfl) (by simp) ?_
    refine AllReadyH.cons rfl (fun K hK => ?_) AllReadyH.nil
    rw [if_pos (by rfl)]
    go_simp
    go_at_call 48
    refine (mul_any ki s _).mono ?_
    rintro e' w2 ⟨rfl, b2⟩
    have N2 := N1.on b2
    clear b2 N1 hHeld
    refine hK.out _ _ ?_ (fun hHeld => ?_)
    · exact N2.s
    clear hK K
    try simp only [Act.put, List.getElem_toArray, List.getElem_cons_succ, List.getElem_cons_zero, List.setIfInBounds_toArray, List.set_cons_zero, List.set_cons_succ]
    refine wpAnyH_ready (rs := [12]) (by kernel_rfl) (by simp) ?_
    refine AllReadyH.cons rfl (fun K hK => ?_) AllReadyH.nil
    rw [if_pos (by rfl)]
    go_simp
    go_at_call 48
    refine (mul_any kd 0 _).mono ?_
    rintro e' w3 ⟨rfl, b3⟩
    have N3 := N2.on b3
    clear b3 N2 hHeld
    refine hK.out _ _ ?_ (fun hHeld => ?_)
    · exact N3.s
    clear hK K
    try simp only [Act.put, List.getElem_toArray, List.getElem_cons_succ, List.getElem_cons_zero, List.setIfInBounds_toArray, List.set_cons_zero, List.set_cons_succ]
    have HG := Lib.hid (HG.out e s 0)
    generalize mul kp e = x1 at *
    generalize mul ki s = x2 at *
    generalize mul kd 0 = x3 at *
    refine wpAnyH_ready (rs := [13]) (by kernel_rfl) (by simp) ?_
    refine AllReadyH.cons rfl (fun K hK => ?_) AllReadyH.nil
    rw [if_pos (by rfl)]
    go_simp
    have N4 := N3.on ((Below.refl w3.heap.size w3).alloc (Nat.le_refl _) (.cells #[.int .i64 x1, .int .i64 x2, .int .i64 x3] 2))
    have H4 := Lib.hid (heap_alloc_new w3 (.cells #[.int .i64 x1, .int .i64 x2, .int .i64 x3] 2))
    clear N3 hHeld
    refine hK.out _ _ ?_ (fun hHeld => ?_)
    · exact N4.s
    clear hK K
    try simp only [Act.put, List.getElem_toArray, List.getElem_cons_succ, List.getElem_cons_zero, List.setIfInBounds_toArray, List.set_cons_zero, List.set_cons_succ]
    refine wpAnyH_ready (rs := [14]) (by kernel_rfl) (by simp) ?_
    refine AllReadyH.cons rfl (fun K hK => ?_) AllReadyH.nil
    rw [if_pos (by rfl)]
    go_simp
    go_at_call 56
    refine (summed_any x1 x2 x3 w3.heap.size _ ((cell_of_row _ _ _ _ _ _ H4.out).trans rfl) ((cell_of_row _ _ _ _ _ _ H4.out).trans rfl) ((cell_of_row _ _ _ _ _ _ H4.out).trans rfl)).mono ?_
    rintro e' w9 ⟨rfl, rfl⟩
    clear H4 hHeld
    refine hK.out _ _ ?_ (fun hHeld => ?_)
    · exact N4.s
    clear hK K
    try simp only [Act.put, List.getElem_toArray, List.getElem_cons_succ, List.getElem_cons_zero, List.setIfInBounds_toArray, List.set_cons_zero, List.set_cons_succ]
    refine wpAnyH_ready (rs := [15]) (by kernel_rfl) (by simp) ?_
    refine AllReadyH.cons rfl (fun K hK => ?_) AllReadyH.nil
    rw [if_pos (by rfl)]
    go_simp
    go_at_call 55
    refine (near_any _ _).mono ?_
    rintro e' w9 ⟨rfl, rfl⟩
    clear hHeld
    refine hK.out _ _ ?_ (fun hHeld => ?_)
    · exact N4.s
    clear hK K
    try simp only [Act.put, List.getElem_toArray, List.getElem_cons_succ, List.getElem_cons_zero, List.setIfInBounds_toArray, List.set_cons_zero, List.set_cons_succ]
    generalize near (add (add (add 0 x1) x2) x3) = n at *
    refine wpAnyH_take (i := 16) (v := ?_) rfl (by kernel_rfl) (by kernel_rfl) (by kernel_rfl) (fun _ _ _ h => h) (Or.inl ⟨by rfl, ?_⟩) (by assumption) ?_
    rotate_left
    · intro w hSw
      (try dsimp only at hSw)
      go_simp
      all_goals with_reducible rfl
    try simp only [Act.put, List.getElem_toArray, List.getElem_cons_succ, List.getElem_cons_zero, List.setIfInBounds_toArray, List.set_cons_zero, List.set_cons_succ]
    refine wpAnyH_done (by kernel_rfl) ?_ _
    obtain ⟨w5, hw5⟩ : ∃ w5, w5 = w3.alloc (.cells #[.int .i64 x1, .int .i64 x2, .int .i64 x3] 2) := ⟨_, rfl⟩
    rw [← hw5] at N4 ⊢
    have N5 := Lib.hid N4
    clear hw5 hHeld N4
    have HZ := Lib.hid (NX.hz N5.out)
    have c0 : w5.cell? ⟨w.heap.size + 1 + 1 + 1, 0, none⟩ = some (.int .i64 s) := (cell_of_row _ _ _ _ _ _ (NX.hn N5.out)).trans rfl
    have c1 : w5.cell? ⟨w.heap.size + 1 + 1 + 1, 1, none⟩ = some (.int .i64 e) := (cell_of_row _ _ _ _ _ _ (NX.hn N5.out)).trans rfl
    have c2 : w5.cell? ⟨w.heap.size + 1 + 1 + 1, 2, none⟩ = some (.bool true) := (cell_of_row _ _ _ _ _ _ (NX.hn N5.out)).trans rfl
    go_wp2_with (first
      | (refine wpList_store_mid (by rfl) 27 (.tmp 6) (.tmp 44) (by rfl) (w.heap.size + 1 + 1) 0 #[.int .i64 s, .int .i64 e, .bool true] (by rfl) (by rfl) (there_of_block HZ.out (by simp)) (by kernel_rfl) (by kernel_rfl) ?_))
    have hz := heap_setCells_whole (cs := [Value.int .i64 0, .int .i64 0, .bool false]) [Value.int .i64 s, .int .i64 e, .bool true] rfl HZ.out
    refine bodyPost_ret (results_row_tmp1 rfl _ _ (w.heap.size + 1 + 1) _ _ _ _ rfl hz Try.underlying27 (by rfl) (by kernel_rfl)) (by rfl) ?_
    exact ⟨ret_tup2i HG.out, below_setCells' _ (by omega) _ _ N5.out.bel⟩
  · have HC : Hid (sub e prev = c) := HC.out
    go_enter Try.func41, Try.ntmps41
    go_wp2_with fail
    refine (sub_any u t _).mono ?_
    rintro e' w9 ⟨rfl, rfl⟩
    rw [HE.out]
    go_wp2_with fail
    refine (sub_any e prev _).mono ?_
    rintro e' w9 ⟨rfl, rfl⟩
    rw [HC.out]
    go_wp2_with fail
    refine (add_any sum e _).mono ?_
    rintro e' w9 ⟨rfl, rfl⟩
    rw [HS.out]
    go_upto_region 6 with fail
    refine wp_region_held_drew (S := fun x => x.cell? ⟨w.heap.size, 3, none⟩ = some (.int .i64 kp) ∧ x.cell? ⟨w.heap.size, 4, none⟩ = some (.int .i64 ki) ∧ x.cell? ⟨w.heap.size, 5, none⟩ = some (.int .i64 kd) ∧ x.cell? ⟨w.heap.size + 1 + 1 + 1, 0, none⟩ = some (.int .i64 s) ∧ NX w x #[k, .int .i64 t, b, .int .i64 kp, .int .i64 ki, .int .i64 kd, pe, sl] #[.int .i64 s, .int .i64 e, .bool true]) (by kernel_rfl) (HN.out _ _ _).s (fun hHeld => ?_)
    clear HN
    have hHeld := hHeld.2.2.2.2
    refine wpAnyH_take (i := 0) (v := ?_) rfl (by kernel_rfl) (by kernel_rfl) (by kernel_rfl) (fun _ _ _ h => h) (Or.inl ⟨by rfl, ?_⟩) (by assumption) ?_
    rotate_left
    · intro w hSw
      (try dsimp only at hSw)
      go_simp
      all_goals with_reducible rfl
    try simp only [Act.put, List.getElem_toArray, List.getElem_cons_succ, List.getElem_cons_zero, List.setIfInBounds_toArray, List.set_cons_zero, List.set_cons_succ]
    refine wpAnyH_take (i := 1) (v := ?_) rfl (by kernel_rfl) (by kernel_rfl) (by kernel_rfl) (fun _ _ _ h => h) (Or.inl ⟨by rfl, ?_⟩) (by assumption) ?_
    rotate_left
    · intro w hSw
      (try dsimp only at hSw)
      go_simp
      all_goals with_reducible rfl
    try simp only [Act.put, List.getElem_toArray, List.getElem_cons_succ, List.getElem_cons_zero, List.setIfInBounds_toArray, List.set_cons_zero, List.set_cons_succ]
    refine wpAnyH_take (i := 2) (v := ?_) rfl (by kernel_rfl) (by kernel_rfl) (by kernel_rfl) (fun _ _ _ h => h) (Or.inl ⟨by rfl, ?_⟩) (by assumption) ?_
    rotate_left
    · intro w hSw
      (try dsimp only at hSw)
      go_simp
      all_goals with_reducible rfl
    try simp only [Act.put, List.getElem_toArray, List.getElem_cons_succ, List.getElem_cons_zero, List.setIfInBounds_toArray, List.set_cons_zero, List.set_cons_succ]
    refine wpAnyH_take (i := 4) (v := ?_) rfl (by kernel_rfl) (by kernel_rfl) (by kernel_rfl) (fun _ _ _ h => h) (Or.inl ⟨by rfl, ?_⟩) (by assumption) ?_
    rotate_left
    · intro w hSw
      (try dsimp only at hSw)
      go_simp
      all_goals with_reducible rfl
    try simp only [Act.put, List.getElem_toArray, List.getElem_cons_succ, List.getElem_cons_zero, List.setIfInBounds_toArray, List.set_cons_zero, List.set_cons_succ]
    refine wpAnyH_take (i := 5) (v := ?_) rfl (by kernel_rfl) (by kernel_rfl) (by kernel_rfl) (fun _ _ _ h => h) (Or.inl ⟨by rfl, ?_⟩) (by assumption) ?_
    rotate_left
    · intro w hSw
      (try dsimp only at hSw)
      go_simp
      all_goals with_reducible rfl
    try simp only [Act.put, List.getElem_toArray, List.getElem_cons_succ, List.getElem_cons_zero, List.setIfInBounds_toArray, List.set_cons_zero, List.set_cons_succ]
    refine wpAnyH_take (i := 6) (v := ?_) rfl (by kernel_rfl) (by kernel_rfl) (by kernel_rfl) (fun _ _ _ h => h) (Or.inl ⟨by rfl, ?_⟩) (by assumption) ?_
    rotate_left
    · intro w hSw
      (try dsimp only at hSw)
      go_simp
      all_goals with_reducible rfl
    try simp only [Act.put, List.getElem_toArray, List.getElem_cons_succ, List.getElem_cons_zero, List.setIfInBounds_toArray, List.set_cons_zero, List.set_cons_succ]
    refine wpAnyH_take (i := 7) (v := ?_) rfl (by kernel_rfl) (by kernel_rfl) (by kernel_rfl) (fun _ _ _ h => h) (Or.inl ⟨by rfl, ?_⟩) (by assumption) ?_
    rotate_left
    · intro w hSw
      (try dsimp only at hSw)
      go_simp
      all_goals with_reducible rfl
    try simp only [Act.put, List.getElem_toArray, List.getElem_cons_succ, List.getElem_cons_zero, List.setIfInBounds_toArray, List.set_cons_zero, List.set_cons_succ]
    refine wpAnyH_take (i := 9) (v := ?_) rfl (by kernel_rfl) (by kernel_rfl) (by kernel_rfl) (fun _ _ _ h => h) (Or.inl ⟨by rfl, ?_⟩) (by assumption) ?_
    rotate_left
    · intro w hSw
      (try dsimp only at hSw)
      go_simp
      all_goals with_reducible rfl
    try simp only [Act.put, List.getElem_toArray, List.getElem_cons_succ, List.getElem_cons_zero, List.setIfInBounds_toArray, List.set_cons_zero, List.set_cons_succ]
    refine wpAnyH_take (i := 10) (v := ?_) rfl (by kernel_rfl) (by kernel_rfl) (by kernel_rfl) (fun _ _ _ h => h) (Or.inl ⟨by rfl, ?_⟩) (by assumption) ?_
    rotate_left
    · intro w hSw
      (try dsimp only at hSw)
      go_simp
      all_goals with_reducible rfl
    try simp only [Act.put, List.getElem_toArray, List.getElem_cons_succ, List.getElem_cons_zero, List.setIfInBounds_toArray, List.set_cons_zero, List.set_cons_succ]
    refine wpAnyH_take (i := 11) (v := ?_) rfl (by kernel_rfl) (by kernel_rfl) (by kernel_rfl) (fun _ _ _ h => h) (Or.inl ⟨by rfl, ?_⟩) (by assumption) ?_
    rotate_left
    · intro w hSw
      (try dsimp only at hSw)
      go_simp
      all_goals with_reducible rfl
    try simp only [Act.put, List.getElem_toArray, List.getElem_cons_succ, List.getElem_cons_zero, List.setIfInBounds_toArray, List.set_cons_zero, List.set_cons_succ]
    refine wpAnyH_ready (rs := [3]) (by kernel_rfl) (by simp) ?_
    refine AllReadyH.cons rfl (fun K hK => ?_) AllReadyH.nil
    rw [if_pos (by rfl)]
    go_simp
    go_at_call 48
    refine (mul_any kp e _).mono ?_
    rintro e' w1 ⟨rfl, b1⟩
    have N1 := NX.on hHeld b1
    clear b1 hHeld
    refine hK.out _ _ ?_ (fun hHeld => ?_)
    · exact N1.s
    clear hK K
    try simp only [Act.put, List.getElem_toArray, List.getElem_cons_succ, List.getElem_cons_zero, List.setIfInBounds_toArray, List.set_cons_zero, List.set_cons_succ]
    refine wpAnyH_ready (rs := [8]) (by kernel_rfl) (by simp) ?_
    refine AllReadyH.cons rfl (fun K hK => ?_) AllReadyH.nil
    rw [if_pos (by rfl)]
    go_simp
    go_at_call 48
    refine (mul_any ki s _).mono ?_
    rintro e' w2 ⟨rfl, b2⟩
    have N2 := N1.on b2
    clear b2 N1 hHeld
    refine hK.out _ _ ?_ (fun hHeld => ?_)
    · exact N2.s
    clear hK K
    try simp only [Act.put, List.getElem_toArray, List.getElem_cons_succ, List.getElem_cons_zero, List.setIfInBounds_toArray, List.set_cons_zero, List.set_cons_succ]
    refine wpAnyH_ready (rs := [12]) (by kernel_rfl) (by simp) ?_
    refine AllReadyH.cons rfl (fun K hK => ?_) AllReadyH.nil
    rw [if_pos (by rfl)]
    go_simp
    go_at_call 48
    refine (mul_any kd c _).mono ?_
    rintro e' w3 ⟨rfl, b3⟩
    have N3 := N2.on b3
    clear b3 N2 hHeld
    refine hK.out _ _ ?_ (fun hHeld => ?_)
    · exact N3.s
    clear hK K
    try simp only [Act.put, List.getElem_toArray, List.getElem_cons_succ, List.getElem_cons_zero, List.setIfInBounds_toArray, List.set_cons_zero, List.set_cons_succ]
    have HG := Lib.hid (HG.out e s c)
    generalize mul kp e = x1 at *
    generalize mul ki s = x2 at *
    generalize mul kd c = x3 at *
    refine wpAnyH_ready (rs := [13]) (by kernel_rfl) (by simp) ?_
    refine AllReadyH.cons rfl (fun K hK => ?_) AllReadyH.nil
    rw [if_pos (by rfl)]
    go_simp
    have N4 := N3.on ((Below.refl w3.heap.size w3).alloc (Nat.le_refl _) (.cells #[.int .i64 x1, .int .i64 x2, .int .i64 x3] 2))
    have H4 := Lib.hid (heap_alloc_new w3 (.cells #[.int .i64 x1, .int .i64 x2, .int .i64 x3] 2))
    clear N3 hHeld
    refine hK.out _ _ ?_ (fun hHeld => ?_)
    · exact N4.s
    clear hK K
    try simp only [Act.put, List.getElem_toArray, List.getElem_cons_succ, List.getElem_cons_zero, List.setIfInBounds_toArray, List.set_cons_zero, List.set_cons_succ]
    refine wpAnyH_ready (rs := [14]) (by kernel_rfl) (by simp) ?_
    refine AllReadyH.cons rfl (fun K hK => ?_) AllReadyH.nil
    rw [if_pos (by rfl)]
    go_simp
    go_at_call 56
    refine (summed_any x1 x2 x3 w3.heap.size _ ((cell_of_row _ _ _ _ _ _ H4.out).trans rfl) ((cell_of_row _ _ _ _ _ _ H4.out).trans rfl) ((cell_of_row _ _ _ _ _ _ H4.out).trans rfl)).mono ?_
    rintro e' w9 ⟨rfl, rfl⟩
    clear H4 hHeld
    refine hK.out _ _ ?_ (fun hHeld => ?_)
    · exact N4.s
    clear hK K
    try simp only [Act.put, List.getElem_toArray, List.getElem_cons_succ, List.getElem_cons_zero, List.setIfInBounds_toArray, List.set_cons_zero, List.set_cons_succ]
    refine wpAnyH_ready (rs := [15]) (by kernel_rfl) (by simp) ?_
    refine AllReadyH.cons rfl (fun K hK => ?_) AllReadyH.nil
    rw [if_pos (by rfl)]
    go_simp
    go_at_call 55
    refine (near_any _ _).mono ?_
    rintro e' w9 ⟨rfl, rfl⟩
    clear hHeld
    refine hK.out _ _ ?_ (fun hHeld => ?_)
    · exact N4.s
    clear hK K
    try simp only [Act.put, List.getElem_toArray, List.getElem_cons_succ, List.getElem_cons_zero, List.setIfInBounds_toArray, List.set_cons_zero, List.set_cons_succ]
    generalize near (add (add (add 0 x1) x2) x3) = n at *
    refine wpAnyH_take (i := 16) (v := ?_) rfl (by kernel_rfl) (by kernel_rfl) (by kernel_rfl) (fun _ _ _ h => h) (Or.inl ⟨by rfl, ?_⟩) (by assumption) ?_
    rotate_left
    · intro w hSw
      (try dsimp only at hSw)
      go_simp
      all_goals with_reducible rfl
    try simp only [Act.put, List.getElem_toArray, List.getElem_cons_succ, List.getElem_cons_zero, List.setIfInBounds_toArray, List.set_cons_zero, List.set_cons_succ]
    refine wpAnyH_done (by kernel_rfl) ?_ _
    obtain ⟨w5, hw5⟩ : ∃ w5, w5 = w3.alloc (.cells #[.int .i64 x1, .int .i64 x2, .int .i64 x3] 2) := ⟨_, rfl⟩
    rw [← hw5] at N4 ⊢
    have N5 := Lib.hid N4
    clear hw5 hHeld N4
    have HZ := Lib.hid (NX.hz N5.out)
    have c0 : w5.cell? ⟨w.heap.size + 1 + 1 + 1, 0, none⟩ = some (.int .i64 s) := (cell_of_row _ _ _ _ _ _ (NX.hn N5.out)).trans rfl
    have c1 : w5.cell? ⟨w.heap.size + 1 + 1 + 1, 1, none⟩ = some (.int .i64 e) := (cell_of_row _ _ _ _ _ _ (NX.hn N5.out)).trans rfl
    have c2 : w5.cell? ⟨w.heap.size + 1 + 1 + 1, 2, none⟩ = some (.bool true) := (cell_of_row _ _ _ _ _ _ (NX.hn N5.out)).trans rfl
    go_wp2_with (first
      | (refine wpList_store_mid (by rfl) 27 (.tmp 6) (.tmp 44) (by rfl) (w.heap.size + 1 + 1) 0 #[.int .i64 s, .int .i64 e, .bool true] (by rfl) (by rfl) (there_of_block HZ.out (by simp)) (by kernel_rfl) (by kernel_rfl) ?_))
    have hz := heap_setCells_whole (cs := [Value.int .i64 0, .int .i64 0, .bool false]) [Value.int .i64 s, .int .i64 e, .bool true] rfl HZ.out
    refine bodyPost_ret (results_row_tmp1 rfl _ _ (w.heap.size + 1 + 1) _ _ _ _ rfl hz Try.underlying27 (by rfl) (by kernel_rfl)) (by rfl) ?_
    exact ⟨ret_tup2i HG.out, below_setCells' _ (by omega) _ _ N5.out.bel⟩
theorem next_any (k b pe sl : Value) (t kp ki kd sum prev : Int) (has : Bool) (u : Int) (w : World) :
    Calls Try.prog 41 #[.agg #[k, .int .i64 t, b, .int .i64 kp, .int .i64 ki, .int .i64 kd, pe, sl], .agg #[.int .i64 sum, .int .i64 prev, .bool has], .int .i64 u] w fun r w' =>
      r = .returned (.tuple #[.agg #[.int .i64 (add sum (sub u t)), .int .i64 (sub u t), .bool true], .int .i64 (wnt kp ki kd (sub u t) (add sum (sub u t)) (chg has (sub u t) prev))]) ∧ Below w.heap.size w w' :=
  next_at k b pe sl t kp ki kd sum prev has u _ _ _ w rfl rfl rfl
end Go.Proofs.Ytpgjjdpblilljaa
