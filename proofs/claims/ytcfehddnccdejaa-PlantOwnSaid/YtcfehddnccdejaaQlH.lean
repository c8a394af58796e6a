/- The document's Same of a plant and one alike. -/
import Derived.Test.YtcfehddnccdejaaQlE
import Derived.Deep.CutRange
import Derived.Deep.RegionHeld
import Derived.Lib.MinMax
namespace Go.Proofs.Ytcfehddnccdejaa
set_option linter.unusedSimpArgs false
set_option linter.unusedVariables false
open Go.RowKit
open Evn Plt
attribute [local go_sem] Oper.semAt_some

set_option maxRecDepth 100000 in
set_option maxHeartbeats 800000 in
theorem rtsame_any {w : World} {p : Pt} {a a2 : Option Addr} {k k2 : Nat} (h : SRw w a k p.start) (h2 : SRw w a2 k2 p.start) :
    Calls Try.prog 14 #[ptV p a k, ptV p a2 k2] w fun r w' => r = .returned (.bool true) ∧ Below w.heap.size w w' := by
  have hle := h.row.le
  have hmx := h.row.max
  have hle2 := h2.row.le
  unfold maxLen at hmx
  obtain ⟨x, hx⟩ : ∃ x, x = (w.alloc (.cells #[.int .i64 p.ready, .slice a p.start.length k, .int .i64 p.wait, .int .i64 p.util] 26)).alloc (.cells #[.int .i64 p.ready, .slice a2 p.start.length k2, .int .i64 p.wait, .int .i64 p.util] 26) := ⟨_, rfl⟩
  have hB : Below w.heap.size w x := by rw [hx]; exact bel1 (bel1 (Below.refl _ _) _) _
  have hP : PtAt x w.heap.size p a k := by rw [hx]; exact (PtAt.on (heap_alloc_new w (.cells #[.int .i64 p.ready, .slice a p.start.length k, .int .i64 p.wait, .int .i64 p.util] 26)) (bel1 (Below.refl _ _) _))
  have hP2 : PtAt x (w.heap.size + 1) p a2 k2 := by rw [hx]; exact la2 _ _ _
  have HR := Lib.hid (h.on hB)
  have HR2 := Lib.hid (h2.on hB)
  have HB := Lib.hid hB
  obtain ⟨c0, c1, c2, c3⟩ := PtAt.c hP
  obtain ⟨d0, d1, d2, d3⟩ := PtAt.c hP2
  have HP := Lib.hid hP
  have HP2 := Lib.hid hP2
  obtain ⟨n, hn⟩ : ∃ n, p.start.length = n := ⟨_, rfl⟩
  have HN := Lib.hid hn
  have HX := Lib.hid hx
  rw [hn] at c1 d1 hle hle2
  clear hB hP hP2 hx h h2
  unfold ptV
  rw [hn]
  clear hn
  go_enter Try.func14, Try.ntmps14
  go_upto_region 1 with fail
  rw [HN.out] at HX
  rw [← HX.out]
  go_wp2_with fail
  go_loopw [5] (fun i wx => ∃ j : Nat, j ≤ n ∧ i = .int .i64 (j : Int) ∧ PtAt wx w.heap.size p a k ∧ PtAt wx (w.heap.size + 1) p a2 k2 ∧ SRw wx a k p.start ∧ SRw wx a2 k2 p.start ∧ Below w.heap.size w wx) (fun i _ => n - (intOf i).toNat)
  case atStart => exact ⟨0, Nat.zero_le _, rfl, HP.out, HP2.out, HR.out, HR2.out, HB.out⟩
  case round =>
    clear c0 c1 c2 c3 d0 d1 d2 d3 HP HP2 HR HR2 HB
    obtain ⟨j, hj, rfl, hp, hp2, hr, hr2, hb⟩ := hrel
    have HP := Lib.hid hp
    have HP2 := Lib.hid hp2
    have HR := Lib.hid hr
    have HR2 := Lib.hid hr2
    have HB := Lib.hid hb
    obtain ⟨_, c1, _, _⟩ := PtAt.c hp
    obtain ⟨_, d1, _, _⟩ := PtAt.c hp2
    rw [HN.out] at c1 d1
    clear hp hp2 hr hr2 hb
    by_cases hlt : j < n
    · have hlt' : (j : Int) < (n : Int) := by omega
      have hj0 : (0 : Int) ≤ (j : Int) := by omega
      have HK := Lib.hid hlt
      obtain ⟨b, o, rfl, hbl, hc⟩ := HR.out.cell (j := j) (by rw [HN.out]; exact hlt)
      obtain ⟨b3, o3, rfl, hbl3, hc3⟩ := HR2.out.cell (j := j) (by rw [HN.out]; exact hlt)
      generalize p.start.getD j 0 = v at *
      have C1 := Lib.hid c1
      have D1 := Lib.hid d1
      have CC := Lib.hid hc
      have C3 := Lib.hid hc3
      clear hbl hbl3 hlt c1 d1 hc hc3
      have c1 := C1.out
      have d1 := D1.out
      go_upto_region 6 with fail
      clear c1 d1
      refine wp_region_held_drew (S := fun wy => wy.cell? ⟨w.heap.size, 1, none⟩ = some (.slice (some ⟨b, o, none⟩) n k) ∧ wy.cell? ⟨w.heap.size + 1, 1, none⟩ = some (.slice (some ⟨b3, o3, none⟩) n k2) ∧ wy.cell? ⟨b, o + j, none⟩ = some (.int .i64 v) ∧ wy.cell? ⟨b3, o3 + j, none⟩ = some (.int .i64 v)) (by kernel_rfl) ⟨C1.out, D1.out, CC.out, C3.out⟩ (fun hHeld => ?_)
      refine wpAnyH_take (i := 0) (v := ?_) rfl (by kernel_rfl) (by kernel_rfl) (by kernel_rfl) (fun _ _ _ h => h) (Or.inl ⟨by rfl, ?_⟩) (by assumption) ?_
      rotate_left
      · intro w hSw
        (try dsimp only at hSw)
        go_simp
        all_goals with_reducible rfl
      try simp only [Act.put, List.getElem_toArray, List.getElem_cons_succ, List.getElem_cons_zero, List.setIfInBounds_toArray, List.set_cons_zero, List.set_cons_succ]
      refine wpAnyH_take (i := 1) (v := ?_) rfl (by kernel_rfl) (by kernel_rfl) (by kernel_rfl) (fun _ _ _ h => h) (Or.inl ⟨by rfl, ?_⟩) (by assumption) ?_
      rotate_left
      · intro w hSw
        (try dsimp only at hSw)
        go_simp
        all_goals with_reducible rfl
      try simp only [Act.put, List.getElem_toArray, List.getElem_cons_succ, List.getElem_cons_zero, List.setIfInBounds_toArray, List.set_cons_zero, List.set_cons_succ]
      refine wpAnyH_take (i := 2) (v := ?_) rfl (by kernel_rfl) (by kernel_rfl) (by kernel_rfl) (fun _ _ _ h => h) (Or.inl ⟨by rfl, ?_⟩) (by assumption) ?_
      rotate_left
      · intro w hSw
        (try dsimp only at hSw)
        go_simp
        all_goals with_reducible rfl
      try simp only [Act.put, List.getElem_toArray, List.getElem_cons_succ, List.getElem_cons_zero, List.setIfInBounds_toArray, List.set_cons_zero, List.set_cons_succ]
      refine wpAnyH_take (i := 3) (v := ?_) rfl (by kernel_rfl) (by kernel_rfl) (by kernel_rfl) (fun _ _ _ h => h) (Or.inl ⟨by rfl, ?_⟩) (by assumption) ?_
      rotate_left
      · intro w hSw
        (try dsimp only at hSw)
        go_simp
        all_goals with_reducible rfl
      try simp only [Act.put, List.getElem_toArray, List.getElem_cons_succ, List.getElem_cons_zero, List.setIfInBounds_toArray, List.set_cons_zero, List.set_cons_succ]
      refine wpAnyH_take (i := 4) (v := ?_) rfl (by kernel_rfl) (by kernel_rfl) (by kernel_rfl) (fun _ _ _ h => h) (Or.inl ⟨by rfl, ?_⟩) (by assumption) ?_
      rotate_left
      · intro w hSw
        (try dsimp only at hSw)
        go_simp
        all_goals with_reducible rfl
      try simp only [Act.put, List.getElem_toArray, List.getElem_cons_succ, List.getElem_cons_zero, List.setIfInBounds_toArray, List.set_cons_zero, List.set_cons_succ]
      refine wpAnyH_take (i := 5) (v := ?_) rfl (by kernel_rfl) (by kernel_rfl) (by kernel_rfl) (fun _ _ _ h => h) (Or.inl ⟨by rfl, ?_⟩) (by assumption) ?_
      rotate_left
      · intro w hSw
        (try dsimp only at hSw)
        go_simp
        all_goals with_reducible rfl
      try simp only [Act.put, List.getElem_toArray, List.getElem_cons_succ, List.getElem_cons_zero, List.setIfInBounds_toArray, List.set_cons_zero, List.set_cons_succ]
      refine wpAnyH_take (i := 6) (v := ?_) rfl (by kernel_rfl) (by kernel_rfl) (by kernel_rfl) (fun _ _ _ h => h) (Or.inl ⟨by rfl, ?_⟩) (by assumption) ?_
      rotate_left
      · intro w hSw
        (try dsimp only at hSw)
        go_simp
        all_goals with_reducible rfl
      try simp only [Act.put, List.getElem_toArray, List.getElem_cons_succ, List.getElem_cons_zero, List.setIfInBounds_toArray, List.set_cons_zero, List.set_cons_succ]
      refine wpAnyH_take (i := 7) (v := ?_) rfl (by kernel_rfl) (by kernel_rfl) (by kernel_rfl) (fun _ _ _ h => h) (Or.inl ⟨by rfl, ?_⟩) (by assumption) ?_
      rotate_left
      · intro w hSw
        (try dsimp only at hSw)
        go_simp
        all_goals with_reducible rfl
      try simp only [Act.put, List.getElem_toArray, List.getElem_cons_succ, List.getElem_cons_zero, List.setIfInBounds_toArray, List.set_cons_zero, List.set_cons_succ]
      refine wpAnyH_take (i := 8) (v := ?_) rfl (by kernel_rfl) (by kernel_rfl) (by kernel_rfl) (fun _ _ _ h => h) (Or.inl ⟨by rfl, ?_⟩) (by assumption) ?_
      rotate_left
      · intro w hSw
        (try dsimp only at hSw)
        go_simp
        all_goals with_reducible rfl
      try simp only [Act.put, List.getElem_toArray, List.getElem_cons_succ, List.getElem_cons_zero, List.setIfInBounds_toArray, List.set_cons_zero, List.set_cons_succ]
      refine wpAnyH_take (i := 9) (v := ?_) rfl (by kernel_rfl) (by kernel_rfl) (by kernel_rfl) (fun _ _ _ h => h) (Or.inl ⟨by rfl, ?_⟩) (by assumption) ?_
      rotate_left
      · intro w hSw
        (try dsimp only at hSw)
        go_simp
        all_goals with_reducible rfl
      try simp only [Act.put, List.getElem_toArray, List.getElem_cons_succ, List.getElem_cons_zero, List.setIfInBounds_toArray, List.set_cons_zero, List.set_cons_succ]
      refine wpAnyH_take (i := 10) (v := ?_) rfl (by kernel_rfl) (by kernel_rfl) (by kernel_rfl) (fun _ _ _ h => h) (Or.inl ⟨by rfl, ?_⟩) (by assumption) ?_
      rotate_left
      · intro w hSw
        (try dsimp only at hSw)
        go_simp
        all_goals with_reducible rfl
      try simp only [Act.put, List.getElem_toArray, List.getElem_cons_succ, List.getElem_cons_zero, List.setIfInBounds_toArray, List.set_cons_zero, List.set_cons_succ]
      refine wpAnyH_done (by kernel_rfl) ?_ _
      clear hHeld
      go_wp2_with fail
      go_roundw
      case rel => exact ⟨j + 1, HK.out, by go_num, HP.out, HP2.out, HR.out.on (Below.drew (Below.refl _ _)), HR2.out.on (Below.drew (Below.refl _ _)), HB.out.drew⟩
      case measure => have := HK.out; simp [intOf]; omega
    · have hlt' : ¬ (j : Int) < (n : Int) := by omega
      go_wp2
      go_ret
      exact ⟨rfl, HB.out⟩
end Go.Proofs.Ytcfehddnccdejaa
