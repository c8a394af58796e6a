/- Contracts of the program's limit: bounds, laid on one by one. -/
import Derived.Test.YtllphglhkpcclaaLiB
import Derived.Test.YtllphglhkpcclaaTail
import Derived.Deep.CutRange
import Derived.Deep.RegionHeld
import Derived.Lib.MinMax
namespace Go.Proofs.Ytllphglhkpcclaa
set_option linter.unusedSimpArgs false
set_option linter.unusedVariables false
open Go.RowKit
open Wir Evn Lim
attribute [local go_sem] Oper.semAt_some

/-- How many may not go. -/
def kpt (c : Cf) (g : Hd) (now : Int) : Int := if g.2.2 = true ∧ now - g.2.1 < c.stable then g.1 else -9223372036854775808
set_option maxRecDepth 100000 in
set_option maxHeartbeats 3200000 in
theorem ever_any (c : Cf) (w : World) :
    Calls Try.prog 18 #[cfV c] w fun r w' => r = .returned (.agg #[.int .i64 c.min, .int .i64 c.max]) ∧ Below w.heap.size w w' := by
  unfold cfV
  go_enter Try.func18, Try.ntmps18
  go_wp2
  refine bodyPost_ret (results_cell_row rfl _ _ (w.heap.size + 1) _ _ _ _ rfl (la2 _ _ _) Try.underlying44 (by rfl) (by kernel_rfl)) (by rfl) ?_
  exact ⟨rfl, bel1 (bel1 (Below.refl _ _) _) _⟩
set_option maxRecDepth 100000 in
set_option maxHeartbeats 3200000 in
theorem nearest_any (a b n : Int) (w : World) :
    Calls Try.prog 19 #[.agg #[.int .i64 a, .int .i64 b], .int .i64 n] w fun r w' => r = .returned (.int .i64 (max a (min n b))) ∧ Below w.heap.size w w' := by
  go_enter Try.func19, Try.ntmps19
  go_wp2
  go_ret
  exact ⟨rfl, bel1 (Below.refl _ _) _⟩
set_option maxRecDepth 100000 in
set_option maxHeartbeats 3200000 in
theorem kept_any (c : Cf) (g : Hd) (now : Int) (ht : (0 ≤ g.2.1 ∧ g.2.1 ≤ 1099511627776) ∧ 0 ≤ now ∧ now ≤ 1099511627776) (w : World) :
    Calls Try.prog 21 #[cfV c, hdV g, .int .i64 now] w fun r w' => r = .returned (.int .i64 (kpt c g now)) ∧ Below w.heap.size w w' := by
  obtain ⟨G, L0, gr⟩ := g
  simp only at ht
  have e3 : IntKind.i64.wrap (now - L0) = now - L0 := by rw [IntKind.wrap_i64]; omega
  unfold cfV hdV
  cases gr
  · have HK : Hid (kpt c (G, L0, false) now = -9223372036854775808) := by show _ = _; simp [kpt]
    go_enter Try.func21, Try.ntmps21
    go_wp2
    go_ret
    exact ⟨by rw [HK.out]; rfl, bel1 (bel1 (Below.refl _ _) _) _⟩
  by_cases hs : now - L0 < c.stable
  · have HK : Hid (kpt c (G, L0, true) now = G) := by show _ = _; simp [kpt, hs]
    go_enter Try.func21, Try.ntmps21
    go_wp2
    go_ret
    exact ⟨by rw [HK.out]; rfl, bel1 (bel1 (Below.refl _ _) _) _⟩
  · have HK : Hid (kpt c (G, L0, true) now = -9223372036854775808) := by show _ = _; simp [kpt, hs]
    go_enter Try.func21, Try.ntmps21
    go_wp2
    go_ret
    exact ⟨by rw [HK.out]; rfl, bel1 (bel1 (Below.refl _ _) _) _⟩
set_option maxRecDepth 100000 in
set_option maxHeartbeats 3200000 in
theorem bounds_any {c : Cf} (hc : COk c) (g : Hd) (now : Int) (hg : c.min ≤ g.1 ∧ g.1 ≤ c.max) (ht : (0 ≤ g.2.1 ∧ g.2.1 ≤ 1099511627776) ∧ 0 ≤ now ∧ now ≤ 1099511627776) (w : World) :
    Calls Try.prog 20 #[cfV c, hdV g, .int .i64 now] w fun r w' => r = .returned (.agg #[.int .i64 (g.1 - c.rate), .int .i64 (g.1 + c.rate), .int .i64 c.min, .int .i64 c.max, .int .i64 (kpt c g now), .int .i64 9223372036854775807]) ∧ Below w.heap.size w w' := by
  obtain ⟨G, L0, gr⟩ := g
  simp only at ht hg
  have HR := Lib.hid ht
  have e1 : IntKind.i64.wrap (G - c.rate) = G - c.rate := by have := hc.m1; have := hc.m3; have := hc.r1; have := hc.r2; rw [IntKind.wrap_i64]; omega
  have e2 : IntKind.i64.wrap (G + c.rate) = G + c.rate := by have := hc.m1; have := hc.m3; have := hc.r1; have := hc.r2; rw [IntKind.wrap_i64]; omega
  obtain ⟨hB, hP, hS⟩ := two w c (G, L0, gr)
  obtain ⟨x, hx⟩ : ∃ x, x = (w.alloc (.cells #[.int .i64 c.min, .int .i64 c.max, .int .i64 c.rate, .int .i64 c.stable, .int .i64 c.cap, .int .i64 c.delay, .int .i64 c.slack, .int .i64 c.window, .int .i64 c.margin, .int .i64 c.ceil, .int .i64 c.probe, .int .i64 c.breach] 23)).alloc (.cells #[.int .i64 G, .int .i64 L0, .bool gr] 25) := ⟨_, rfl⟩
  simp only at hB hP hS
  rw [← hx] at hB hP hS
  have HB := Lib.hid hB
  have HP := Lib.hid hP
  have HS := Lib.hid hS
  have HX := Lib.hid hx
  clear hB hP hS hx
  unfold cfV hdV
  go_enter Try.func20, Try.ntmps20
  go_upto_region 1 with fail
  rw [← HX.out]
  have b := bel1 (Below.refl x.heap.size x) (.cells #[.int .i64 0, .int .i64 0, .int .i64 0, .int .i64 0, .int .i64 0, .int .i64 0] 47)
  have HB := Lib.hid (bel2 HB.out b)
  have HP := Lib.hid (HP.out.on b)
  have HS := Lib.hid (HS.out.on b)
  have HZ : Hid ((x.alloc (.cells #[.int .i64 0, .int .i64 0, .int .i64 0, .int .i64 0, .int .i64 0, .int .i64 0] 47)).heap[w.heap.size + 1 + 1]? = some (.cells #[.int .i64 0, .int .i64 0, .int .i64 0, .int .i64 0, .int .i64 0, .int .i64 0] 47 (0, 0))) := by show _ = _; rw [HX.out]; exact la3 _ _ _ _
  generalize hw0 : (x.alloc (.cells #[.int .i64 0, .int .i64 0, .int .i64 0, .int .i64 0, .int .i64 0, .int .i64 0] 47)) = w0 at *
  clear b HX
  refine wp_region_held_drew (S := fun wy => wy.cell? ⟨w.heap.size + 1, 0, none⟩ = some (.int .i64 G) ∧ wy.cell? ⟨w.heap.size + 1, 1, none⟩ = some (.int .i64 L0) ∧ wy.cell? ⟨w.heap.size + 1, 2, none⟩ = some (.bool gr) ∧ wy.cell? ⟨w.heap.size, 2, none⟩ = some (.int .i64 c.rate) ∧ CBx wy w.heap.size c) (by kernel_rfl) (⟨(HdAt.c (HS.out.on (Below.drew (Below.refl _ _)))).1, (HdAt.c (HS.out.on (Below.drew (Below.refl _ _)))).2.1, (HdAt.c (HS.out.on (Below.drew (Below.refl _ _)))).2.2, (cell_of_row _ _ _ _ _ _ (HP.out.on (Below.drew (Below.refl _ _)))).trans rfl, HP.out.on (Below.drew (Below.refl _ _))⟩) (fun hHeld => ?_)
  have hB0 : Below w0.heap.size w0 w0.drew := Below.drew (Below.refl _ _)
  refine wpAnyH_take (i := 0) (v := ?_) rfl (by kernel_rfl) (by kernel_rfl) (by kernel_rfl) (fun _ _ _ h => h) (Or.inl ⟨by rfl, ?_⟩) (by assumption) ?_
  rotate_left
  · intro w hSw
    (try dsimp only at hSw)
    go_simp
    all_goals with_reducible rfl
  try simp only [Act.put, List.getElem_toArray, List.getElem_cons_succ, List.getElem_cons_zero, List.setIfInBounds_toArray, List.set_cons_zero, List.set_cons_succ]
  refine wpAnyH_take (i := 1) (v := ?_) rfl (by kernel_rfl) (by kernel_rfl) (by kernel_rfl) (fun _ _ _ h => h) (Or.inl ⟨by rfl, ?_⟩) (by assumption) ?_
  rotate_left
  · intro w hSw
    (try dsimp only at hSw)
    go_simp
    all_goals with_reducible rfl
  try simp only [Act.put, List.getElem_toArray, List.getElem_cons_succ, List.getElem_cons_zero, List.setIfInBounds_toArray, List.set_cons_zero, List.set_cons_succ]
  refine wpAnyH_take (i := 2) (v := ?_) rfl (by kernel_rfl) (by kernel_rfl) (by kernel_rfl) (fun _ _ _ h => h) (Or.inl ⟨by rfl, ?_⟩) (by assumption) ?_
  rotate_left
  · intro w hSw
    (try dsimp only at hSw)
    go_simp
    all_goals with_reducible rfl
  try simp only [Act.put, List.getElem_toArray, List.getElem_cons_succ, List.getElem_cons_zero, List.setIfInBounds_toArray, List.set_cons_zero, List.set_cons_succ]
  refine wpAnyH_take (i := 3) (v := ?_) rfl (by kernel_rfl) (by kernel_rfl) (by kernel_rfl) (fun _ _ _ h => h) (Or.inl ⟨by rfl, ?_⟩) (by assumption) ?_
  rotate_left
  · intro w hSw
    (try dsimp only at hSw)
    go_simp
    all_goals with_reducible rfl
  try simp only [Act.put, List.getElem_toArray, List.getElem_cons_succ, List.getElem_cons_zero, List.setIfInBounds_toArray, List.set_cons_zero, List.set_cons_succ]
  refine wpAnyH_take (i := 4) (v := ?_) rfl (by kernel_rfl) (by kernel_rfl) (by kernel_rfl) (fun _ _ _ h => h) (Or.inl ⟨by rfl, ?_⟩) (by assumption) ?_
  rotate_left
  · intro w hSw
    (try dsimp only at hSw)
    go_simp
    all_goals with_reducible rfl
  try simp only [Act.put, List.getElem_toArray, List.getElem_cons_succ, List.getElem_cons_zero, List.setIfInBounds_toArray, List.set_cons_zero, List.set_cons_succ]
  refine wpAnyH_take (i := 5) (v := ?_) rfl (by kernel_rfl) (by kernel_rfl) (by kernel_rfl) (fun _ _ _ h => h) (Or.inl ⟨by rfl, ?_⟩) (by assumption) ?_
  rotate_left
  · intro w hSw
    (try dsimp only at hSw)
    go_simp
    all_goals with_reducible rfl
  try simp only [Act.put, List.getElem_toArray, List.getElem_cons_succ, List.getElem_cons_zero, List.setIfInBounds_toArray, List.set_cons_zero, List.set_cons_succ]
  refine wpAnyH_take (i := 6) (v := ?_) rfl (by kernel_rfl) (by kernel_rfl) (by kernel_rfl) (fun _ _ _ h => h) (Or.inl ⟨by rfl, ?_⟩) (by assumption) ?_
  rotate_left
  · intro w hSw
    (try dsimp only at hSw)
    go_simp
    all_goals with_reducible rfl
  try simp only [Act.put, List.getElem_toArray, List.getElem_cons_succ, List.getElem_cons_zero, List.setIfInBounds_toArray, List.set_cons_zero, List.set_cons_succ]
  refine wpAnyH_take (i := 7) (v := ?_) rfl (by kernel_rfl) (by kernel_rfl) (by kernel_rfl) (fun _ _ _ h => h) (Or.inl ⟨by rfl, ?_⟩) (by assumption) ?_
  rotate_left
  · intro w hSw
    (try dsimp only at hSw)
    go_simp
    all_goals with_reducible rfl
  try simp only [Act.put, List.getElem_toArray, List.getElem_cons_succ, List.getElem_cons_zero, List.setIfInBounds_toArray, List.set_cons_zero, List.set_cons_succ]
  refine wpAnyH_take (i := 8) (v := ?_) rfl (by kernel_rfl) (by kernel_rfl) (by kernel_rfl) (fun _ _ _ h => h) (Or.inl ⟨by rfl, ?_⟩) (by assumption) ?_
  rotate_left
  · intro w hSw
    (try dsimp only at hSw)
    go_simp
    all_goals with_reducible rfl
  try simp only [Act.put, List.getElem_toArray, List.getElem_cons_succ, List.getElem_cons_zero, List.setIfInBounds_toArray, List.set_cons_zero, List.set_cons_succ]
  refine wpAnyH_take (i := 9) (v := ?_) rfl (by kernel_rfl) (by kernel_rfl) (by kernel_rfl) (fun _ _ _ h => h) (Or.inl ⟨by rfl, ?_⟩) (by assumption) ?_
  rotate_left
  · intro w hSw
    (try dsimp only at hSw)
    go_simp
    all_goals with_reducible rfl
  try simp only [Act.put, List.getElem_toArray, List.getElem_cons_succ, List.getElem_cons_zero, List.setIfInBounds_toArray, List.set_cons_zero, List.set_cons_succ]
  refine wpAnyH_take (i := 10) (v := ?_) rfl (by kernel_rfl) (by kernel_rfl) (by kernel_rfl) (fun _ _ _ h => h) (Or.inl ⟨by rfl, ?_⟩) (by assumption) ?_
  rotate_left
  · intro w hSw
    (try dsimp only at hSw)
    go_simp
    all_goals with_reducible rfl
  try simp only [Act.put, List.getElem_toArray, List.getElem_cons_succ, List.getElem_cons_zero, List.setIfInBounds_toArray, List.set_cons_zero, List.set_cons_succ]
  refine wpAnyH_take (i := 11) (v := cfV c) rfl (by kernel_rfl) (by kernel_rfl) (by kernel_rfl) (fun _ _ _ h => h) (Or.inl ⟨by rfl, fun wz hS => exec_rowG 23 (.tmp 3) rfl (w.heap.size) rfl 23 _ (0, 0) _ (hS.2.2.2.2) Try.underlying23 rfl (by kernel_rfl)⟩) (by assumption) ?_
  try simp only [Act.put, List.getElem_toArray, List.getElem_cons_succ, List.getElem_cons_zero, List.setIfInBounds_toArray, List.set_cons_zero, List.set_cons_succ]
  refine wpAnyH_take (i := 13) (v := cfV c) rfl (by kernel_rfl) (by kernel_rfl) (by kernel_rfl) (fun _ _ _ h => h) (Or.inl ⟨by rfl, fun wz hS => exec_rowG 23 (.tmp 3) rfl (w.heap.size) rfl 23 _ (0, 0) _ (hS.2.2.2.2) Try.underlying23 rfl (by kernel_rfl)⟩) (by assumption) ?_
  try simp only [Act.put, List.getElem_toArray, List.getElem_cons_succ, List.getElem_cons_zero, List.setIfInBounds_toArray, List.set_cons_zero, List.set_cons_succ]
  refine wpAnyH_take (i := 14) (v := ?_) rfl (by kernel_rfl) (by kernel_rfl) (by kernel_rfl) (fun _ _ _ h => h) (Or.inl ⟨by rfl, ?_⟩) (by assumption) ?_
  rotate_left
  · intro w hSw
    (try dsimp only at hSw)
    go_simp
    all_goals with_reducible rfl
  try simp only [Act.put, List.getElem_toArray, List.getElem_cons_succ, List.getElem_cons_zero, List.setIfInBounds_toArray, List.set_cons_zero, List.set_cons_succ]
  refine wpAnyH_take (i := 15) (v := ?_) rfl (by kernel_rfl) (by kernel_rfl) (by kernel_rfl) (fun _ _ _ h => h) (Or.inl ⟨by rfl, ?_⟩) (by assumption) ?_
  rotate_left
  · intro w hSw
    (try dsimp only at hSw)
    go_simp
    all_goals with_reducible rfl
  try simp only [Act.put, List.getElem_toArray, List.getElem_cons_succ, List.getElem_cons_zero, List.setIfInBounds_toArray, List.set_cons_zero, List.set_cons_succ]
  refine wpAnyH_ready (rs := [12]) (by kernel_rfl) (by simp) ?_
  refine AllReadyH.cons rfl (fun K hK => ?_) AllReadyH.nil
  rw [if_pos (by rfl)]
  go_simp
  go_at_call 18
  refine (ever_any c _).mono ?_
  rintro r wq1 ⟨rfl, b⟩
  have hB1 := bel2 hB0 b
  clear b hB0
  refine hK.out _ _ ?_ (fun hHeld => ?_)
  · exact ⟨(HdAt.c (HS.out.on hB1)).1, (HdAt.c (HS.out.on hB1)).2.1, (HdAt.c (HS.out.on hB1)).2.2, (cell_of_row _ _ _ _ _ _ (HP.out.on hB1)).trans rfl, HP.out.on hB1⟩
  clear hK K
  try simp only [Act.put, List.getElem_toArray, List.getElem_cons_succ, List.getElem_cons_zero, List.setIfInBounds_toArray, List.set_cons_zero, List.set_cons_succ]
  refine wpAnyH_ready (rs := [16]) (by kernel_rfl) (by simp) ?_
  refine AllReadyH.cons rfl (fun K hK => ?_) AllReadyH.nil
  rw [if_pos (by rfl)]
  go_simp
  go_at_call 21
  refine (kept_any c (G, L0, gr) now HR.out _).mono ?_
  rintro r wq2 ⟨rfl, b⟩
  have hB2 := bel2 hB1 b
  clear b hB1
  refine hK.out _ _ ?_ (fun hHeld => ?_)
  · exact ⟨(HdAt.c (HS.out.on hB2)).1, (HdAt.c (HS.out.on hB2)).2.1, (HdAt.c (HS.out.on hB2)).2.2, (cell_of_row _ _ _ _ _ _ (HP.out.on hB2)).trans rfl, HP.out.on hB2⟩
  clear hK K
  try simp only [Act.put, List.getElem_toArray, List.getElem_cons_succ, List.getElem_cons_zero, List.setIfInBounds_toArray, List.set_cons_zero, List.set_cons_succ]
  refine wpAnyH_take (i := 17) (v := ?_) rfl (by kernel_rfl) (by kernel_rfl) (by kernel_rfl) (fun _ _ _ h => h) (Or.inl ⟨by rfl, ?_⟩) (by assumption) ?_
  rotate_left
  · intro w hSw
    (try dsimp only at hSw)
    go_simp
    all_goals with_reducible rfl
  try simp only [Act.put, List.getElem_toArray, List.getElem_cons_succ, List.getElem_cons_zero, List.setIfInBounds_toArray, List.set_cons_zero, List.set_cons_succ]
  refine wpAnyH_take (i := 18) (v := ?_) rfl (by kernel_rfl) (by kernel_rfl) (by kernel_rfl) (fun _ _ _ h => h) (Or.inl ⟨by rfl, ?_⟩) (by assumption) ?_
  rotate_left
  · intro w hSw
    (try dsimp only at hSw)
    go_simp
    all_goals with_reducible rfl
  try simp only [Act.put, List.getElem_toArray, List.getElem_cons_succ, List.getElem_cons_zero, List.setIfInBounds_toArray, List.set_cons_zero, List.set_cons_succ]
  refine wpAnyH_ready (rs := [19]) (by kernel_rfl) (by simp) ?_
  refine AllReadyH.cons rfl (fun K hK => ?_) AllReadyH.nil
  rw [if_pos (by rfl)]
  have Z2 := Lib.hid ((hB2.block _ (lt_of_heap HZ.out)).trans HZ.out)
  refine wp_store_mid 47 (.tmp 6) (.tmp 25) (by rfl) (w.heap.size + 1 + 1) 0 #[.int .i64 (G - c.rate), .int .i64 (G + c.rate), .int .i64 c.min, .int .i64 c.max, .int .i64 (kpt c (G, L0, gr) now), .int .i64 9223372036854775807] (by rfl) (by rfl) (there_of_block Z2.out (by simp)) (by kernel_rfl) (by kernel_rfl) ?_
  have Z3 := Lib.hid (heap_setCells_whole (cs := [Value.int .i64 0, .int .i64 0, .int .i64 0, .int .i64 0, .int .i64 0, .int .i64 0]) (#[.int .i64 (G - c.rate), .int .i64 (G + c.rate), .int .i64 c.min, .int .i64 c.max, .int .i64 (kpt c (G, L0, gr) now), .int .i64 9223372036854775807] : Array Value).toList rfl Z2.out)
  have hB3 := below_setCells' (w.heap.size + 1 + 1) (by omega) (#[.int .i64 (G - c.rate), .int .i64 (G + c.rate), .int .i64 c.min, .int .i64 c.max, .int .i64 (kpt c (G, L0, gr) now), .int .i64 9223372036854775807] : Array Value).toList 0 (bel2 HB.out hB2)
  generalize hwz : wq2.setCells (w.heap.size + 1 + 1) 0 (#[.int .i64 (G - c.rate), .int .i64 (G + c.rate), .int .i64 c.min, .int .i64 c.max, .int .i64 (kpt c (G, L0, gr) now), .int .i64 9223372036854775807] : Array Value).toList = wz at *
  refine hK.out _ _ ?_ (fun hHeld => ?_)
  · rw [← hwz]; exact ⟨(HdAt.c ((HS.out.on hB2).far (by omega) _)).1, (HdAt.c ((HS.out.on hB2).far (by omega) _)).2.1, (HdAt.c ((HS.out.on hB2).far (by omega) _)).2.2, (cell_of_row _ _ _ _ _ _ ((HP.out.on hB2).far (by omega) _)).trans rfl, (HP.out.on hB2).far (by omega) _⟩
  clear hK K
  try simp only [Act.put, List.getElem_toArray, List.getElem_cons_succ, List.getElem_cons_zero, List.setIfInBounds_toArray, List.set_cons_zero, List.set_cons_succ]
  refine wpAnyH_done (by kernel_rfl) ?_ _
  go_wp2_with fail
  refine bodyPost_ret (results_cell_row rfl _ _ (w.heap.size + 1 + 1) _ _ _ _ rfl Z3.out Try.underlying47 (by rfl) (by kernel_rfl)) (by rfl) ?_
  exact ⟨rfl, hB3⟩
set_option maxRecDepth 100000 in
set_option maxHeartbeats 3200000 in
theorem linto_any {c : Cf} (hc : COk c) (h : Hd) (w : World) :
    Calls Try.prog 12 #[cfV c, hdV h] w fun r w' => r = .returned (hdV (into c h)) ∧ Below w.heap.size w w' := by
  obtain ⟨N, hN⟩ : ∃ N, max c.min (min h.1 c.max) = N := ⟨_, rfl⟩
  have HV : Hid (into c h = (N, h.2.1, h.2.2)) := by show _ = _; rw [← hN]; unfold into bnd; have := hc.m2; ext <;> simp <;> omega
  rw [HV.out]
  have HQN := Lib.hid (fun y => nearest_any c.min c.max h.1 y)
  rw [hN] at HQN
  clear hN
  obtain ⟨hB, hP, hS, hZ⟩ := three w c h
  obtain ⟨x, hx⟩ : ∃ x, x = ((w.alloc (.cells #[.int .i64 c.min, .int .i64 c.max, .int .i64 c.rate, .int .i64 c.stable, .int .i64 c.cap, .int .i64 c.delay, .int .i64 c.slack, .int .i64 c.window, .int .i64 c.margin, .int .i64 c.ceil, .int .i64 c.probe, .int .i64 c.breach] 23)).alloc (.cells #[.int .i64 h.1, .int .i64 h.2.1, .bool h.2.2] 25)).alloc (.cells #[.int .i64 0, .int .i64 0, .bool false] 25) := ⟨_, rfl⟩
  rw [← hx] at hB hP hS hZ
  have HB := Lib.hid hB
  have HP := Lib.hid hP
  have HS := Lib.hid hS
  have HZ := Lib.hid hZ
  have HX := Lib.hid hx
  clear hB hP hS hZ hx
  unfold cfV hdV
  go_enter Try.func12, Try.ntmps12
  go_upto_region 1 with fail
  rw [← HX.out]
  clear HX
  refine region_tail (fun wy => wy.cell? ⟨w.heap.size + 1, 0, none⟩ = some (.int .i64 h.1) ∧ CBx wy w.heap.size c) 6 (by kernel_rfl) (⟨(HdAt.c (HS.out.on (Below.drew (Below.refl _ _)))).1, HP.out.on (Below.drew (Below.refl _ _))⟩) (fun hHeld => ?_)
  have hB0 : Below x.heap.size x x.drew := Below.drew (Below.refl _ _)
  refine takeT (i := 0) (v := cfV c) rfl (by kernel_rfl) (by kernel_rfl) (by kernel_rfl) (by kernel_rfl) (fun _ _ _ h => h) (Or.inl ⟨by rfl, fun wz hS => exec_rowG 23 (.tmp 2) rfl (w.heap.size) rfl 23 _ (0, 0) _ (hS.2) Try.underlying23 rfl (by kernel_rfl)⟩) (by assumption) ?_
  try simp only [Act.put, List.getElem_toArray, List.getElem_cons_succ, List.getElem_cons_zero, List.setIfInBounds_toArray, List.set_cons_zero, List.set_cons_succ]
  refine takeT (i := 2) (v := ?_) rfl (by kernel_rfl) (by kernel_rfl) (by kernel_rfl) (by kernel_rfl) (fun _ _ _ h => h) (Or.inl ⟨by rfl, ?_⟩) (by assumption) ?_
  rotate_left
  · intro w hSw
    (try dsimp only at hSw)
    go_simp
    all_goals with_reducible rfl
  try simp only [Act.put, List.getElem_toArray, List.getElem_cons_succ, List.getElem_cons_zero, List.setIfInBounds_toArray, List.set_cons_zero, List.set_cons_succ]
  refine takeT (i := 3) (v := ?_) rfl (by kernel_rfl) (by kernel_rfl) (by kernel_rfl) (by kernel_rfl) (fun _ _ _ h => h) (Or.inl ⟨by rfl, ?_⟩) (by assumption) ?_
  rotate_left
  · intro w hSw
    (try dsimp only at hSw)
    go_simp
    all_goals with_reducible rfl
  try simp only [Act.put, List.getElem_toArray, List.getElem_cons_succ, List.getElem_cons_zero, List.setIfInBounds_toArray, List.set_cons_zero, List.set_cons_succ]
  refine heldT.ready (rs := [1]) (by kernel_rfl) (by simp) ?_
  refine ReadyT.cons rfl (fun K hK => ?_) ReadyT.nil
  rw [if_pos (by rfl)]
  go_simp
  go_at_call 18
  refine (ever_any c _).mono ?_
  rintro r wq1 ⟨rfl, b⟩
  have hB1 := bel2 hB0 b
  clear b hB0
  have hh : wq1.cell? ⟨w.heap.size + 1, 0, none⟩ = some (.int .i64 h.1) ∧ CBx wq1 w.heap.size c := ⟨(HdAt.c (HS.out.on hB1)).1, HP.out.on hB1⟩
  refine hK.out _ _ (Or.inl (hh)) ?_
  have hHeld := hh
  clear hK K
  try simp only [Act.put, List.getElem_toArray, List.getElem_cons_succ, List.getElem_cons_zero, List.setIfInBounds_toArray, List.set_cons_zero, List.set_cons_succ]
  clear hh
  refine heldT.ready (rs := [4]) (by kernel_rfl) (by simp) ?_
  refine ReadyT.cons rfl (fun K hK => ?_) ReadyT.nil
  rw [if_pos (by rfl)]
  go_simp
  go_at_call 19
  refine (HQN.out _).mono ?_
  rintro r wq2 ⟨rfl, b⟩
  have hB2 := bel2 hB1 b
  clear b hB1
  have hh : wq2.cell? ⟨w.heap.size + 1, 0, none⟩ = some (.int .i64 h.1) ∧ CBx wq2 w.heap.size c := ⟨(HdAt.c (HS.out.on hB2)).1, HP.out.on hB2⟩
  refine hK.out _ _ (Or.inl (hh)) ?_
  have hHeld := hh
  clear hK K
  try simp only [Act.put, List.getElem_toArray, List.getElem_cons_succ, List.getElem_cons_zero, List.setIfInBounds_toArray, List.set_cons_zero, List.set_cons_succ]
  clear hh
  refine takeT (i := 5) (v := ?_) rfl (by kernel_rfl) (by kernel_rfl) (by kernel_rfl) (by kernel_rfl) (fun _ _ _ h => h) (Or.inl ⟨by rfl, ?_⟩) (by assumption) ?_
  rotate_left
  · intro w hSw
    (try dsimp only at hSw)
    go_simp
    all_goals with_reducible rfl
  try simp only [Act.put, List.getElem_toArray, List.getElem_cons_succ, List.getElem_cons_zero, List.setIfInBounds_toArray, List.set_cons_zero, List.set_cons_succ]
  refine heldT.ready (rs := [6]) (by kernel_rfl) (by simp) ?_
  refine ReadyT.cons rfl (fun K hK => ?_) ReadyT.nil
  rw [if_pos (by rfl)]
  have hQ := HS.out.on hB2
  have hF := frozen_of_row wq2 (w.heap.size + 1) 0 _ _ hQ
  have hC := (HdAt.c hQ).1
  go_simp
  have V2 : Hid (HdAt (wq2.setCell ⟨w.heap.size + 1, 0, none⟩ (.int .i64 N)) (w.heap.size + 1) (N, h.2.1, h.2.2)) := heap_setCell_same _ _ 0 _ _ _ hQ
  have HZ2 : Hid (HdAt (wq2.setCell ⟨w.heap.size + 1, 0, none⟩ (.int .i64 N)) (w.heap.size + 1 + 1) (0, 0, false)) := (heap_setCell_other wq2 _ _ _ (by simp)).trans (HZ.out.on hB2)
  have hB3 := (bel2 HB.out hB2).setCell (p := ⟨w.heap.size + 1, 0, none⟩) (by simp) (.int .i64 N)
  refine hK.out _ _ (Or.inr rfl) ?_
  clear hK K
  try simp only [Act.put, List.getElem_toArray, List.getElem_cons_succ, List.getElem_cons_zero, List.setIfInBounds_toArray, List.set_cons_zero, List.set_cons_succ]
  generalize wq2.setCell ⟨w.heap.size + 1, 0, none⟩ (.int .i64 N) = wz at *
  refine heldT.done (by kernel_rfl) ?_ _
  clear hQ hF hC hB2
  obtain ⟨cs0, cs1, cs2⟩ := HdAt.c V2.out
  go_wp2_with (first | (refine wpList_store_mid (by rfl) 25 (.tmp 4) (.tmp 11) (by rfl) (w.heap.size + 1 + 1) 0 #[.int .i64 N, .int .i64 h.2.1, .bool h.2.2] (by rfl) (by rfl) (there_of_block HZ2.out (by simp)) (by kernel_rfl) (by kernel_rfl) ?_) | fail)
  refine bodyPost_ret (results_cell_row rfl _ _ (w.heap.size + 1 + 1) _ _ _ _ rfl (HdAt.set HZ2.out (N, h.2.1, h.2.2)) Try.underlying25 (by rfl) (by kernel_rfl)) (by rfl) ?_
  exact ⟨rfl, below_setCells' (w.heap.size + 1 + 1) (by omega) _ 0 hB3⟩
theorem index_0 (a b c d e f : Value) (w : World) : (Instr.index 47 (.agg #[a, b, c, d, e, f]) (.int .i64 0)).run Try.prog w = .ok (.agg #[a, b]) w := by kernel_rfl
theorem index_1 (a b c d e f : Value) (w : World) : (Instr.index 47 (.agg #[a, b, c, d, e, f]) (.int .i64 1)).run Try.prog w = .ok (.agg #[c, d]) w := by kernel_rfl
theorem index_2 (a b c d e f : Value) (w : World) : (Instr.index 47 (.agg #[a, b, c, d, e, f]) (.int .i64 2)).run Try.prog w = .ok (.agg #[e, f]) w := by kernel_rfl
theorem HdAt.s0 {w : World} {g : Nat} {a b : Int} {d : Bool} (k : HdAt w g (a, b, d)) (x : Int) : HdAt (w.setCell ⟨g, 0, none⟩ (.int .i64 x)) g (x, b, d) := heap_setCell_same _ _ 0 _ _ _ k
theorem HdAt.s1 {w : World} {g : Nat} {a b : Int} {d : Bool} (k : HdAt w g (a, b, d)) (x : Int) : HdAt (w.setCell ⟨g, 1, none⟩ (.int .i64 x)) g (a, x, d) := heap_setCell_same _ _ 1 _ _ _ k
theorem HdAt.s2 {w : World} {g : Nat} {a b : Int} {d : Bool} (k : HdAt w g (a, b, d)) (x : Bool) : HdAt (w.setCell ⟨g, 2, none⟩ (.bool x)) g (a, b, x) := heap_setCell_same _ _ 2 _ _ _ k
theorem HdAt.other {w : World} {g q j : Nat} {h : Hd} (k : HdAt w g h) (hne : g ≠ q) (v : Value) : HdAt (w.setCell ⟨q, j, none⟩ v) g h := (heap_setCell_other w ⟨q, j, none⟩ g v hne).trans k
theorem HdAt.fr {w : World} {g : Nat} {h : Hd} (k : HdAt w g h) (j : Nat) : w.frozen? ⟨g, j, none⟩ = false := frozen_of_row w g j _ _ k
theorem held_by {c : Cf} (hc : COk c) {G L0 : Int} {gr : Bool} (h1 : c.min ≤ G) (h2 : G ≤ c.max) (want now : Int) :
    max (kpt c (G, L0, gr) now) (min (max c.min (min (max (G - c.rate) (min want (G + c.rate))) c.max)) 9223372036854775807) = held c (G, L0, gr) want now := by
  have k1 := hc.m1
  have k2 := hc.m2
  have k3 := hc.m3
  have k4 := hc.r1
  have e : max c.min (min (max (G - c.rate) (min want (G + c.rate))) c.max) = near c G want := by unfold near bnd; omega
  rw [e]
  have hb := near_in hc G want
  unfold kpt held
  simp only
  by_cases hg : gr = true ∧ now - L0 < c.stable
  · rw [if_pos hg]
    by_cases hl : near c G want < G
    · rw [if_pos ⟨hl, hg⟩]; omega
    · rw [if_neg (fun h => hl h.1)]; omega
  · rw [if_neg hg, if_neg (fun h => hg h.2)]; omega
set_option maxRecDepth 100000 in
set_option maxHeartbeats 3200000 in
theorem lnext_any {c : Cf} (hc : COk c) (h : Hd) (want now : Int) (ht : (0 ≤ h.2.1 ∧ h.2.1 ≤ 1099511627776) ∧ 0 ≤ now ∧ now ≤ 1099511627776) (w : World) :
    Calls Try.prog 14 #[cfV c, hdV h, .int .i64 want, .int .i64 now] w fun r w' => r = .returned (hdV (nxt c h want now)) ∧ Below w.heap.size w w' := by
  obtain ⟨hB, hP, hS, hZ⟩ := three w c h
  have h0 := into_in hc h
  obtain ⟨G, L0, gr, hG⟩ : ∃ G L0 gr, into c h = (G, L0, gr) := ⟨_, _, _, rfl⟩
  have hL : L0 = h.2.1 := by have := congrArg (fun z => z.2.1) hG; exact this.symm
  rw [hG] at h0
  simp only at h0
  have HI := Lib.hid (fun y => linto_any hc h y)
  rw [hG] at HI
  have HV : Hid (nxt c h want now = goes c (G, L0, gr) want now) := by show _ = _; unfold nxt; rw [hG]
  rw [← hL] at ht
  have HT := Lib.hid ht
  obtain ⟨n1, hn1⟩ : ∃ N, max (G - c.rate) (min want (G + c.rate)) = N := ⟨_, rfl⟩
  obtain ⟨n2, hn2⟩ : ∃ N, max c.min (min n1 c.max) = N := ⟨_, rfl⟩
  obtain ⟨n3, hn3⟩ : ∃ N, max (kpt c (G, L0, gr) now) (min n2 9223372036854775807) = N := ⟨_, rfl⟩
  have hh := held_by hc (L0 := L0) (gr := gr) h0.1 h0.2 want now
  rw [hn1, hn2, hn3] at hh
  have HH := Lib.hid hh
  have Q1 := Lib.hid (fun y => nearest_any (G - c.rate) (G + c.rate) want y)
  have Q2 := Lib.hid (fun y => nearest_any c.min c.max n1 y)
  have Q3 := Lib.hid (fun y => nearest_any (kpt c (G, L0, gr) now) 9223372036854775807 n2 y)
  rw [hn1] at Q1
  rw [hn2] at Q2
  rw [hn3] at Q3
  have HBO := Lib.hid (fun y => bounds_any hc (G, L0, gr) now h0 ht y)
  clear hn1 hn2 hn3 hh
  obtain ⟨x, hx⟩ : ∃ x, x = ((w.alloc (.cells #[.int .i64 c.min, .int .i64 c.max, .int .i64 c.rate, .int .i64 c.stable, .int .i64 c.cap, .int .i64 c.delay, .int .i64 c.slack, .int .i64 c.window, .int .i64 c.margin, .int .i64 c.ceil, .int .i64 c.probe, .int .i64 c.breach] 23)).alloc (.cells #[.int .i64 h.1, .int .i64 h.2.1, .bool h.2.2] 25)).alloc (.cells #[.int .i64 0, .int .i64 0, .bool false] 25) := ⟨_, rfl⟩
  rw [← hx] at hB hP hS hZ
  have HB := Lib.hid hB
  have HP := Lib.hid hP
  have HS := Lib.hid hS
  have HZ := Lib.hid hZ
  have HX := Lib.hid hx
  have HC := Lib.hid hc
  clear hB hP hS hZ hx hL hG hc
  unfold cfV hdV
  go_enter Try.func14, Try.ntmps14
  go_upto_region 1 with fail
  rw [← HX.out]
  obtain ⟨cs0, cs1, cs2⟩ := HdAt.c HS.out
  go_wp2_with (first
    | (refine wpList_load_rowG (by first | rfl | kernel_rfl | (simp [Region.wanted, yielded])) 23 (.tmp 4) (by rfl) (w.heap.size) (by rfl) 23 _ (0, 0) _ HP.out Try.underlying23 (by rfl) (by kernel_rfl) ?_)
    | fail)
  refine (HI.out _).mono ?_
  rintro r w1 ⟨rfl, b⟩
  unfold hdV
  simp only
  clear cs0 cs1 cs2 HX HI
  have HZ := Lib.hid (HZ.out.on b)
  have hzl : Hid (w.heap.size + 1 + 1 < w1.heap.size) := lt_of_heap HZ.out
  have HP := Lib.hid (HP.out.on b)
  have HB := Lib.hid (bel2 HB.out b)
  clear HS b
  go_upto_region 2 with fail
  have b := bel1 (Below.refl w1.heap.size w1) (.cells #[.int .i64 G, .int .i64 L0, .bool gr] 25)
  have V : Hid (HdAt (w1.alloc (.cells #[.int .i64 G, .int .i64 L0, .bool gr] 25)) w1.heap.size (G, L0, gr)) := heap_alloc_new _ _
  have HZ := Lib.hid (HZ.out.on b)
  have HP := Lib.hid (HP.out.on b)
  have HB := Lib.hid (bel2 HB.out b)
  skip
  generalize hw2 : w1.alloc (.cells #[.int .i64 G, .int .i64 L0, .bool gr] 25) = w2 at *
  clear hw2 b
  obtain ⟨cv0, cv1, cv2⟩ := HdAt.c V.out
  go_wp2_with (first
    | (refine wpList_load_rowG (by first | rfl | kernel_rfl | (simp [Region.wanted, yielded])) 23 (.tmp 4) (by rfl) (w.heap.size) (by rfl) 23 _ (0, 0) _ HP.out Try.underlying23 (by rfl) (by kernel_rfl) ?_)
    | fail)
  refine (HBO.out _).mono ?_
  rintro r w3 ⟨rfl, b⟩
  simp only
  clear cv0 cv1 cv2 HBO
  have HZ := Lib.hid (HZ.out.on b)
  have V := Lib.hid (V.out.on b)
  have HB := Lib.hid (bel2 HB.out b)
  clear HP b
  go_wp2_with fail
  go_loopw [10, 21] (fun vn i wx => (i = .int .i64 0 ∧ vn = .int .i64 want ∨ i = .int .i64 1 ∧ vn = .int .i64 n1 ∨ i = .int .i64 2 ∧ vn = .int .i64 n2 ∨ i = .int .i64 3 ∧ vn = .int .i64 n3) ∧ HdAt wx w1.heap.size (G, L0, gr) ∧ HdAt wx (w.heap.size + 1 + 1) (0, 0, false) ∧ Below w.heap.size w wx) (fun _ i _ => 4 - (intOf i).toNat)
  case atStart => exact ⟨.inl ⟨rfl, rfl⟩, V.out, HZ.out, HB.out⟩
  case round =>
    clear V HZ HB
    obtain ⟨hij, hv, hz, hb⟩ := hrel
    have V := Lib.hid hv
    have HZ := Lib.hid hz
    have HB := Lib.hid hb
    clear hv hz hb
    rcases hij with ⟨rfl, rfl⟩ | ⟨rfl, rfl⟩ | ⟨rfl, rfl⟩ | ⟨rfl, rfl⟩
    · have hix := index_0
      go_wp2_with fail
      clear hix
      refine (Q1.out _).mono ?_
      rintro r w5 ⟨rfl, b⟩
      have bb := bel2 (bel1 (Below.refl wr.heap.size wr) _) b
      go_wp2_with fail
      go_roundw
      case rel => exact ⟨.inr (.inl ⟨rfl, rfl⟩), V.out.on bb, HZ.out.on bb, bel2 HB.out bb⟩
      case measure => simp [intOf]
    · have hix := index_1
      go_wp2_with fail
      clear hix
      refine (Q2.out _).mono ?_
      rintro r w5 ⟨rfl, b⟩
      have bb := bel2 (bel1 (Below.refl wr.heap.size wr) _) b
      go_wp2_with fail
      go_roundw
      case rel => exact ⟨.inr (.inr (.inl ⟨rfl, rfl⟩)), V.out.on bb, HZ.out.on bb, bel2 HB.out bb⟩
      case measure => simp [intOf]
    · have hix := index_2
      go_wp2_with fail
      clear hix
      refine (Q3.out _).mono ?_
      rintro r w5 ⟨rfl, b⟩
      have bb := bel2 (bel1 (Below.refl wr.heap.size wr) _) b
      go_wp2_with fail
      go_roundw
      case rel => exact ⟨.inr (.inr (.inr ⟨rfl, rfl⟩)), V.out.on bb, HZ.out.on bb, bel2 HB.out bb⟩
      case measure => simp [intOf]
    · clear Q1 Q2 Q3
      obtain ⟨cv0, cv1, cv2⟩ := HdAt.c V.out
      by_cases hg : G < n3
      · have HV2 : Hid (nxt c h want now = (n3, now, true)) := by
          show _ = _
          rw [HV.out]
          unfold goes
          rw [← HH.out]
          simp [hg]
        have f1 := V.out.fr 1
        have f2 := V.out.fr 2
        go_upto_region 10 with fail
        have hb := (HB.out.setCell (p := ⟨w1.heap.size, 1, none⟩) (by have := hzl.out; simp; omega) (.int .i64 now)).setCell (p := ⟨w1.heap.size, 2, none⟩) (by have := hzl.out; simp; omega) (.bool true)
        have V := Lib.hid ((V.out.s1 now).s2 true)
        have HZ := Lib.hid ((HZ.out.other (q := w1.heap.size) (j := 1) (by have := hzl.out; omega) (.int .i64 now)).other (q := w1.heap.size) (j := 2) (by have := hzl.out; omega) (.bool true))
        have HB := Lib.hid hb
        generalize (wr.setCell ⟨w1.heap.size, 1, none⟩ (.int .i64 now)).setCell ⟨w1.heap.size, 2, none⟩ (.bool true) = w4 at *
        clear hb cv0 cv1 cv2 f1 f2
        obtain ⟨cv0, cv1, cv2⟩ := HdAt.c V.out
        have f0 := V.out.fr 0
        go_upto_region 11 with fail
        have hb := HB.out.setCell (p := ⟨w1.heap.size, 0, none⟩) (by have := hzl.out; simp; omega) (.int .i64 n3)
        have V := Lib.hid (V.out.s0 n3)
        have HZ := Lib.hid (HZ.out.other (q := w1.heap.size) (j := 0) (by have := hzl.out; omega) (.int .i64 n3))
        have HB := Lib.hid hb
        generalize w4.setCell ⟨w1.heap.size, 0, none⟩ (.int .i64 n3) = w5 at *
        clear hb cv0 cv1 cv2 f0
        obtain ⟨cv0, cv1, cv2⟩ := HdAt.c V.out
        go_wp2_with (first | (refine wpList_store_mid (by rfl) 25 (.tmp 8) (.tmp 37) (by rfl) (w.heap.size + 1 + 1) 0 #[.int .i64 n3, .int .i64 now, .bool true] (by rfl) (by rfl) (there_of_block HZ.out (by simp)) (by kernel_rfl) (by kernel_rfl) ?_) | fail)
        refine bodyPost_ret (results_cell_row rfl _ _ (w.heap.size + 1 + 1) _ _ _ _ rfl (HdAt.set HZ.out (n3, now, true)) Try.underlying25 (by rfl) (by kernel_rfl)) (by rfl) ?_
        exact ⟨by rw [HV2.out], below_setCells' (w.heap.size + 1 + 1) (by omega) _ 0 HB.out⟩
      · have HV2 : Hid (nxt c h want now = (n3, L0, gr)) := by
          show _ = _
          rw [HV.out]
          unfold goes
          rw [← HH.out]
          simp [hg]
        clear cv0 cv1 cv2
        obtain ⟨cv0, cv1, cv2⟩ := HdAt.c V.out
        have f0 := V.out.fr 0
        go_upto_region 11 with fail
        have hb := HB.out.setCell (p := ⟨w1.heap.size, 0, none⟩) (by have := hzl.out; simp; omega) (.int .i64 n3)
        have V := Lib.hid (V.out.s0 n3)
        have HZ := Lib.hid (HZ.out.other (q := w1.heap.size) (j := 0) (by have := hzl.out; omega) (.int .i64 n3))
        have HB := Lib.hid hb
        generalize wr.setCell ⟨w1.heap.size, 0, none⟩ (.int .i64 n3) = w5 at *
        clear hb cv0 cv1 cv2 f0
        obtain ⟨cv0, cv1, cv2⟩ := HdAt.c V.out
        go_wp2_with (first | (refine wpList_store_mid (by rfl) 25 (.tmp 8) (.tmp 37) (by rfl) (w.heap.size + 1 + 1) 0 #[.int .i64 n3, .int .i64 L0, .bool gr] (by rfl) (by rfl) (there_of_block HZ.out (by simp)) (by kernel_rfl) (by kernel_rfl) ?_) | fail)
        refine bodyPost_ret (results_cell_row rfl _ _ (w.heap.size + 1 + 1) _ _ _ _ rfl (HdAt.set HZ.out (n3, L0, gr)) Try.underlying25 (by rfl) (by kernel_rfl)) (by rfl) ?_
        exact ⟨by rw [HV2.out], below_setCells' (w.heap.size + 1 + 1) (by omega) _ 0 HB.out⟩
end Go.Proofs.Ytllphglhkpcclaa
