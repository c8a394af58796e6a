/- policy.Next of the zero policy. -/
import Derived.Test.YtpgjjdpblilljaaPoE
import Derived.Deep.RegionHeld
import Derived.Deep.CutRange
namespace Go.Proofs.Ytpgjjdpblilljaa
set_option linter.unusedSimpArgs false
set_option linter.unusedVariables false
open Go.RowKit
open Evn Plc
attribute [local go_sem] Oper.semAt_some

set_option maxRecDepth 100000 in
set_option maxHeartbeats 3200000 in
theorem pnext0 {w : World} {p : Pl} {a1 a2 : Option Addr} {c1 c2 : Nat} (hk : p.kind = 0) (h1 : PRow w a1 p.bands.length c1 p.bands) (h2 : PRow w a2 p.slots.length c2 p.slots) (s e : Int) (h : Bool) (c u t : Int) :
    Calls Try.prog 11 #[plV p a1 a2 c1 c2, stV s e h, .int .i64 c, .int .i64 u, .int .i64 t] w fun r w' =>
      r = .returned (.tuple #[staV (carry p (s, e, h) u), .int .i64 (many p (s, e, h) c u t)]) ∧ Below w.heap.size w w' := by
  obtain ⟨x, hx⟩ : ∃ x, x = ((w.alloc (.cells #[.int .i64 p.kind, .int .i64 p.target, .slice a1 p.bands.length c1, .int .i64 p.kp, .int .i64 p.ki, .int .i64 p.kd, .int .i64 p.period, .slice a2 p.slots.length c2] 25)).alloc (.cells #[.int .i64 s, .int .i64 e, .bool h] 27)).alloc (.cells #[.int .i64 0, .int .i64 0, .bool false] 27) := ⟨_, rfl⟩
  obtain ⟨hB, hP, hS, hZ⟩ := NB.new w p a1 a2 c1 c2 s e h
  rw [← hx] at hB hP hS hZ
  have HKC : Hid (x.cell? ⟨w.heap.size, 0, none⟩ = some (.int .i64 0)) := by show _ = _; rw [(cell_of_row _ _ 0 _ _ _ hP)]; exact congrArg (fun v => some (Value.int .i64 v)) hk
  have HK := Lib.hid hk
  clear hk
  have HB := Lib.hid hB
  have HP := Lib.hid hP
  have HS := Lib.hid hS
  have HZ := Lib.hid hZ
  have HX := Lib.hid hx
  have H1 := Lib.hid (h1.on hB)
  have H2 := Lib.hid (h2.on hB)
  clear hB hP hS hZ hx h1 h2
  obtain ⟨C, hC⟩ : ∃ C, C = rep c := ⟨_, rfl⟩
  have HC := Lib.hid hC.symm
  have HC2 : Hid (0 ≤ C ∧ C ≤ 1000) := by show _ ∧ _; rw [hC]; exact rep_le c
  clear hC
  unfold plV stV
  go_enter Try.func11, Try.ntmps11
  go_wp2_with fail
  refine (pbounded_any c _).mono ?_
  rintro r w9 ⟨rfl, rfl⟩
  rw [HC.out]
  go_upto_region 2 with fail
  rw [← HX.out]
  go_cut [12, 13] from 12 to 28 (fun vt vu wx => ∃ g gd, vt = .pointer (some ⟨gd, 0, none⟩) ∧ vu = .bool false ∧ x.heap.size ≤ gd ∧ wx.heap[gd]? = some (.cells #[.nilFunc, .nilFunc] 48 (0, 0)) ∧ KX x wx g p a1 a2 c1 c2 C u t)
  case first =>
    refine wp_region_held_drew (S := fun wy => wy.cell? ⟨w.heap.size, 0, none⟩ = some (.int .i64 0) ∧ Below x.heap.size x wy) (by kernel_rfl) ⟨HKC.out, Below.drew (Below.refl _ _)⟩ (fun hHeld => ?_)
    refine wpAnyH_take (i := 0) (v := .agg #[.int .i64 p.kind, .int .i64 p.target, .slice a1 p.bands.length c1, .int .i64 p.kp, .int .i64 p.ki, .int .i64 p.kd, .int .i64 p.period, .slice a2 p.slots.length c2]) rfl (by kernel_rfl) (by kernel_rfl) (by kernel_rfl) (fun _ _ _ h => h) (Or.inl ⟨by rfl, fun wz hS => exec_row 25 (.tmp 5) rfl w.heap.size rfl 25 _ (0, 0) _ (HP.out.on hS.2) Try.underlying25 rfl (by kernel_rfl)⟩) (by assumption) ?_
    try simp only [Act.put, List.getElem_toArray, List.getElem_cons_succ, List.getElem_cons_zero, List.setIfInBounds_toArray, List.set_cons_zero, List.set_cons_succ]
    refine wpAnyH_take (i := 1) (v := ?_) rfl (by kernel_rfl) (by kernel_rfl) (by kernel_rfl) (fun _ _ _ h => h) (Or.inl ⟨by rfl, ?_⟩) (by assumption) ?_
    rotate_left
    · intro w hSw
      (try dsimp only at hSw)
      go_simp
      all_goals with_reducible rfl
    try simp only [Act.put, List.getElem_toArray, List.getElem_cons_succ, List.getElem_cons_zero, List.setIfInBounds_toArray, List.set_cons_zero, List.set_cons_succ]
    refine wpAnyH_take (i := 2) (v := ?_) rfl (by kernel_rfl) (by kernel_rfl) (by kernel_rfl) (fun _ _ _ h => h) (Or.inl ⟨by rfl, ?_⟩) (by assumption) ?_
    rotate_left
    · intro w hSw
      (try dsimp only at hSw)
      go_simp
      all_goals with_reducible rfl
    try simp only [Act.put, List.getElem_toArray, List.getElem_cons_succ, List.getElem_cons_zero, List.setIfInBounds_toArray, List.set_cons_zero, List.set_cons_succ]
    refine wpAnyH_take (i := 3) (v := ?_) rfl (by kernel_rfl) (by kernel_rfl) (by kernel_rfl) (fun _ _ _ h => h) (Or.inl ⟨by rfl, ?_⟩) (by assumption) ?_
    rotate_left
    · intro w hSw
      (try dsimp only at hSw)
      go_simp
      all_goals with_reducible rfl
    try simp only [Act.put, List.getElem_toArray, List.getElem_cons_succ, List.getElem_cons_zero, List.setIfInBounds_toArray, List.set_cons_zero, List.set_cons_succ]
    refine wpAnyH_take (i := 5) (v := ?_) rfl (by kernel_rfl) (by kernel_rfl) (by kernel_rfl) (fun _ _ _ h => h) (Or.inl ⟨by rfl, ?_⟩) (by assumption) ?_
    rotate_left
    · intro w hSw
      (try dsimp only at hSw)
      go_simp
      all_goals with_reducible rfl
    try simp only [Act.put, List.getElem_toArray, List.getElem_cons_succ, List.getElem_cons_zero, List.setIfInBounds_toArray, List.set_cons_zero, List.set_cons_succ]
    refine wpAnyH_take (i := 6) (v := ?_) rfl (by kernel_rfl) (by kernel_rfl) (by kernel_rfl) (fun _ _ _ h => h) (Or.inl ⟨by rfl, ?_⟩) (by assumption) ?_
    rotate_left
    · intro w hSw
      (try dsimp only at hSw)
      go_simp
      all_goals with_reducible rfl
    try simp only [Act.put, List.getElem_toArray, List.getElem_cons_succ, List.getElem_cons_zero, List.setIfInBounds_toArray, List.set_cons_zero, List.set_cons_succ]
    have hB0 := hHeld.2
    clear hHeld
    generalize x.drew = wa0 at hB0 ⊢
    refine wpAnyH_ready (rs := [4, 11]) (by kernel_rfl) (by simp) ?_
    refine AllReadyH.cons rfl (fun K hK => ?_) (AllReadyH.cons rfl (fun K hK => ?_) AllReadyH.nil)
    · rw [if_pos (by rfl)]
      go_simp
      go_at_call 22
      refine (kinds_any p a1 a2 c1 c2 C u t _).mono ?_
      rintro r wa1 ⟨g, rfl, kx⟩
      have kx := kx.base hB0
      clear hB0
      refine hK.out _ _ ?_ (fun hHeld => ?_)
      · exact ⟨(kx.bel.cell (p := ⟨w.heap.size, 0, none⟩) (block_lt_of_cell HKC.out)).trans HKC.out, kx.bel⟩
      clear hK K
      try simp only [Act.put, List.getElem_toArray, List.getElem_cons_succ, List.getElem_cons_zero, List.setIfInBounds_toArray, List.set_cons_zero, List.set_cons_succ]
      refine held_to (S' := (fun wy => (wy.cell? ⟨w.heap.size, 0, none⟩ = some (.int .i64 0) ∧ Below x.heap.size x wy) ∧ KX x wy g p a1 a2 c1 c2 C u t)) (fun _ h => h.1) ⟨⟨(kx.bel.cell (p := ⟨w.heap.size, 0, none⟩) (block_lt_of_cell HKC.out)).trans HKC.out, kx.bel⟩, kx⟩ (fun hHeld => ?_)
      refine wpAnyH_take (i := 7) (v := .tuple #[.agg #[.nilFunc, .nilFunc], .bool false]) rfl (by kernel_rfl) (by kernel_rfl) (by kernel_rfl) (fun _ _ _ h => h) (Or.inl ⟨by rfl, fun wz hS => exec_look rfl rfl rfl (run_miss wz _ _ _ _ hS.2.mp (by kernel_rfl))⟩) (by assumption) ?_
      try simp only [Act.put, List.getElem_toArray, List.getElem_cons_succ, List.getElem_cons_zero, List.setIfInBounds_toArray, List.set_cons_zero, List.set_cons_succ]
      refine wpAnyH_take (i := 8) (v := ?_) rfl (by kernel_rfl) (by kernel_rfl) (by kernel_rfl) (fun _ _ _ h => h) (Or.inl ⟨by rfl, ?_⟩) (by assumption) ?_
      rotate_left
      · intro w hSw
        (try dsimp only at hSw)
        go_simp
        all_goals with_reducible rfl
      try simp only [Act.put, List.getElem_toArray, List.getElem_cons_succ, List.getElem_cons_zero, List.setIfInBounds_toArray, List.set_cons_zero, List.set_cons_succ]
      refine wpAnyH_take (i := 9) (v := ?_) rfl (by kernel_rfl) (by kernel_rfl) (by kernel_rfl) (fun _ _ _ h => h) (Or.inl ⟨by rfl, ?_⟩) (by assumption) ?_
      rotate_left
      · intro w hSw
        (try dsimp only at hSw)
        go_simp
        all_goals with_reducible rfl
      try simp only [Act.put, List.getElem_toArray, List.getElem_cons_succ, List.getElem_cons_zero, List.setIfInBounds_toArray, List.set_cons_zero, List.set_cons_succ]
      refine wpAnyH_take (i := 10) (v := ?_) rfl (by kernel_rfl) (by kernel_rfl) (by kernel_rfl) (fun _ _ _ h => h) (Or.inl ⟨by rfl, ?_⟩) (by assumption) ?_
      rotate_left
      · intro w hSw
        (try dsimp only at hSw)
        go_simp
        all_goals with_reducible rfl
      try simp only [Act.put, List.getElem_toArray, List.getElem_cons_succ, List.getElem_cons_zero, List.setIfInBounds_toArray, List.set_cons_zero, List.set_cons_succ]
      refine wpAnyH_ready (rs := [11]) (by kernel_rfl) (by simp) ?_
      refine AllReadyH.cons rfl (fun K hK => ?_) AllReadyH.nil
      rw [if_pos (by rfl)]
      go_simp
      have hA := (Below.refl wa1.heap.size wa1).alloc (Nat.le_refl _) (.cells #[.nilFunc, .nilFunc] 48)
      have hgd := lt_of_heap kx.mp
      have kx := kx.on hA
      have lz := Nat.le_trans (Nat.le_refl x.heap.size) (Nat.le_trans kx.le (by omega : g ≤ wa1.heap.size))
      have Z := Lib.hid (heap_alloc_new wa1 (.cells #[.nilFunc, .nilFunc] 48))
      obtain ⟨gd, hg2⟩ : ∃ gd, gd = wa1.heap.size := ⟨_, rfl⟩
      rw [← hg2] at Z lz hgd ⊢
      clear hA hg2
      generalize wa1.alloc (.cells #[.nilFunc, .nilFunc] 48) = wa2 at kx Z ⊢
      refine hK.out _ _ ?_ (fun hHeld => ?_)
      · exact ⟨⟨(kx.bel.cell (p := ⟨w.heap.size, 0, none⟩) (block_lt_of_cell HKC.out)).trans HKC.out, kx.bel⟩, kx⟩
      clear hK K
      try simp only [Act.put, List.getElem_toArray, List.getElem_cons_succ, List.getElem_cons_zero, List.setIfInBounds_toArray, List.set_cons_zero, List.set_cons_succ]
      refine wpAnyH_ready (rs := [12]) (by kernel_rfl) (by simp) ?_
      refine AllReadyH.cons rfl (fun K hK => ?_) AllReadyH.nil
      rw [if_pos (by rfl)]
      refine wp_store_mid 48 (.tmp 12) (.tmp 27) (by rfl) gd 0 #[.nilFunc, .nilFunc] (by rfl) (by rfl) (there_of_block Z.out (by simp)) (by kernel_rfl) (by kernel_rfl) ?_
      have Z2 := Lib.hid (heap_setCells_whole (cs := [Value.nilFunc, Value.nilFunc]) (#[.nilFunc, .nilFunc] : Array Value).toList rfl Z.out)
      have kx2 := kx.put lz (.inr hgd) (#[.nilFunc, .nilFunc] : Array Value).toList
      have HX2 := Lib.hid kx2
      clear kx
      refine hK.out _ _ ?_ (fun hHeld => ?_)
      · exact ⟨⟨(kx2.bel.cell (p := ⟨w.heap.size, 0, none⟩) (block_lt_of_cell HKC.out)).trans HKC.out, kx2.bel⟩, kx2⟩
      clear hK K
      try simp only [Act.put, List.getElem_toArray, List.getElem_cons_succ, List.getElem_cons_zero, List.setIfInBounds_toArray, List.set_cons_zero, List.set_cons_succ]
      refine wpAnyH_take (i := 13) (v := ?_) rfl (by kernel_rfl) (by kernel_rfl) (by kernel_rfl) (fun _ _ _ h => h) (Or.inl ⟨by rfl, ?_⟩) (by assumption) ?_
      rotate_left
      · intro w hSw
        (try dsimp only at hSw)
        go_simp
        all_goals with_reducible rfl
      try simp only [Act.put, List.getElem_toArray, List.getElem_cons_succ, List.getElem_cons_zero, List.setIfInBounds_toArray, List.set_cons_zero, List.set_cons_succ]
      refine wpAnyH_done (by kernel_rfl) ?_ _
      go_wp2_with fail
      go_meet
      exact ⟨_, _, rfl, rfl, lz, Z2.out, HX2.out⟩
    · rw [if_pos (by rfl)]
      go_simp
      have hB1 := hB0.alloc hB0.size (.cells #[.nilFunc, .nilFunc] 48)
      have lz := hB0.size
      have Z := Lib.hid (heap_alloc_new wa0 (.cells #[.nilFunc, .nilFunc] 48))
      have hlt := lt_of_heap Z.out
      obtain ⟨gd, hg2⟩ : ∃ gd, gd = wa0.heap.size := ⟨_, rfl⟩
      rw [← hg2] at Z lz hlt ⊢
      clear hg2 hB0
      generalize wa0.alloc (.cells #[.nilFunc, .nilFunc] 48) = wa1 at hB1 Z hlt ⊢
      refine hK.out _ _ ?_ (fun hHeld => ?_)
      · exact ⟨(hB1.cell (p := ⟨w.heap.size, 0, none⟩) (block_lt_of_cell HKC.out)).trans HKC.out, hB1⟩
      clear hK K
      try simp only [Act.put, List.getElem_toArray, List.getElem_cons_succ, List.getElem_cons_zero, List.setIfInBounds_toArray, List.set_cons_zero, List.set_cons_succ]
      refine wpAnyH_ready (rs := [4]) (by kernel_rfl) (by simp) ?_
      refine AllReadyH.cons rfl (fun K hK => ?_) AllReadyH.nil
      rw [if_pos (by rfl)]
      go_simp
      go_at_call 22
      refine (kinds_any p a1 a2 c1 c2 C u t _).mono ?_
      rintro r wa2 ⟨g, rfl, kx⟩
      have hgd : gd < g := Nat.lt_of_lt_of_le hlt kx.le
      have Z := Lib.hid ((kx.bel.block _ hlt).trans Z.out)
      have kx := kx.base hB1
      clear hB1 hlt
      refine hK.out _ _ ?_ (fun hHeld => ?_)
      · exact ⟨(kx.bel.cell (p := ⟨w.heap.size, 0, none⟩) (block_lt_of_cell HKC.out)).trans HKC.out, kx.bel⟩
      clear hK K
      try simp only [Act.put, List.getElem_toArray, List.getElem_cons_succ, List.getElem_cons_zero, List.setIfInBounds_toArray, List.set_cons_zero, List.set_cons_succ]
      refine held_to (S' := (fun wy => (wy.cell? ⟨w.heap.size, 0, none⟩ = some (.int .i64 0) ∧ Below x.heap.size x wy) ∧ KX x wy g p a1 a2 c1 c2 C u t)) (fun _ h => h.1) ⟨⟨(kx.bel.cell (p := ⟨w.heap.size, 0, none⟩) (block_lt_of_cell HKC.out)).trans HKC.out, kx.bel⟩, kx⟩ (fun hHeld => ?_)
      refine wpAnyH_take (i := 7) (v := .tuple #[.agg #[.nilFunc, .nilFunc], .bool false]) rfl (by kernel_rfl) (by kernel_rfl) (by kernel_rfl) (fun _ _ _ h => h) (Or.inl ⟨by rfl, fun wz hS => exec_look rfl rfl rfl (run_miss wz _ _ _ _ hS.2.mp (by kernel_rfl))⟩) (by assumption) ?_
      try simp only [Act.put, List.getElem_toArray, List.getElem_cons_succ, List.getElem_cons_zero, List.setIfInBounds_toArray, List.set_cons_zero, List.set_cons_succ]
      refine wpAnyH_take (i := 8) (v := ?_) rfl (by kernel_rfl) (by kernel_rfl) (by kernel_rfl) (fun _ _ _ h => h) (Or.inl ⟨by rfl, ?_⟩) (by assumption) ?_
      rotate_left
      · intro w hSw
        (try dsimp only at hSw)
        go_simp
        all_goals with_reducible rfl
      try simp only [Act.put, List.getElem_toArray, List.getElem_cons_succ, List.getElem_cons_zero, List.setIfInBounds_toArray, List.set_cons_zero, List.set_cons_succ]
      refine wpAnyH_take (i := 9) (v := ?_) rfl (by kernel_rfl) (by kernel_rfl) (by kernel_rfl) (fun _ _ _ h => h) (Or.inl ⟨by rfl, ?_⟩) (by assumption) ?_
      rotate_left
      · intro w hSw
        (try dsimp only at hSw)
        go_simp
        all_goals with_reducible rfl
      try simp only [Act.put, List.getElem_toArray, List.getElem_cons_succ, List.getElem_cons_zero, List.setIfInBounds_toArray, List.set_cons_zero, List.set_cons_succ]
      refine wpAnyH_take (i := 10) (v := ?_) rfl (by kernel_rfl) (by kernel_rfl) (by kernel_rfl) (fun _ _ _ h => h) (Or.inl ⟨by rfl, ?_⟩) (by assumption) ?_
      rotate_left
      · intro w hSw
        (try dsimp only at hSw)
        go_simp
        all_goals with_reducible rfl
      try simp only [Act.put, List.getElem_toArray, List.getElem_cons_succ, List.getElem_cons_zero, List.setIfInBounds_toArray, List.set_cons_zero, List.set_cons_succ]
      refine wpAnyH_ready (rs := [12]) (by kernel_rfl) (by simp) ?_
      refine AllReadyH.cons rfl (fun K hK => ?_) AllReadyH.nil
      rw [if_pos (by rfl)]
      refine wp_store_mid 48 (.tmp 12) (.tmp 27) (by rfl) gd 0 #[.nilFunc, .nilFunc] (by rfl) (by rfl) (there_of_block Z.out (by simp)) (by kernel_rfl) (by kernel_rfl) ?_
      have Z2 := Lib.hid (heap_setCells_whole (cs := [Value.nilFunc, Value.nilFunc]) (#[.nilFunc, .nilFunc] : Array Value).toList rfl Z.out)
      have kx2 := kx.put lz (.inl hgd) (#[.nilFunc, .nilFunc] : Array Value).toList
      have HX2 := Lib.hid kx2
      clear kx
      refine hK.out _ _ ?_ (fun hHeld => ?_)
      · exact ⟨⟨(kx2.bel.cell (p := ⟨w.heap.size, 0, none⟩) (block_lt_of_cell HKC.out)).trans HKC.out, kx2.bel⟩, kx2⟩
      clear hK K
      try simp only [Act.put, List.getElem_toArray, List.getElem_cons_succ, List.getElem_cons_zero, List.setIfInBounds_toArray, List.set_cons_zero, List.set_cons_succ]
      refine wpAnyH_take (i := 13) (v := ?_) rfl (by kernel_rfl) (by kernel_rfl) (by kernel_rfl) (fun _ _ _ h => h) (Or.inl ⟨by rfl, ?_⟩) (by assumption) ?_
      rotate_left
      · intro w hSw
        (try dsimp only at hSw)
        go_simp
        all_goals with_reducible rfl
      try simp only [Act.put, List.getElem_toArray, List.getElem_cons_succ, List.getElem_cons_zero, List.setIfInBounds_toArray, List.set_cons_zero, List.set_cons_succ]
      refine wpAnyH_done (by kernel_rfl) ?_ _
      go_wp2_with fail
      go_meet
      exact ⟨_, _, rfl, rfl, lz, Z2.out, HX2.out⟩
  case rest =>
  obtain ⟨g, gd, rfl, rfl, lz, Z, kx⟩ := hcut
  generalize wc = w4 at *
  have HK4 := Lib.hid kx
  have HZ4 := Lib.hid Z
  clear kx Z
  have HS4 := Lib.hid (HS.out.on HK4.out.bel)
  have HR4 := Lib.hid (HZ.out.on HK4.out.bel)
  have HB4 := Lib.hid (bel2 HB.out HK4.out.bel)
  obtain ⟨cs0, cs1, cs2, _⟩ := StAt.c HS4.out (Below.refl _ _)
  clear HS HZ HB H1 H2
  go_wp2_with (first
    | (refine wpList_store_mid (by rfl) 27 (.tmp 10) (.tmp 31) (by rfl) (w.heap.size + 1 + 1) 0 #[.int .i64 s, .int .i64 e, .bool h] (by rfl) (by rfl) (there_of_block HR4.out (by simp)) (by kernel_rfl) (by kernel_rfl) ?_)
    | fail)
  have hz := heap_setCells_whole (cs := [Value.int .i64 0, .int .i64 0, .bool false]) (#[.int .i64 s, .int .i64 e, .bool h] : Array Value).toList rfl HR4.out
  refine bodyPost_ret (results_row_tmp1 rfl _ _ (w.heap.size + 1 + 1) _ _ _ _ rfl hz Try.underlying27 (by rfl) (by kernel_rfl)) (by rfl) ?_
  exact ⟨by rw [carry_else (by rw [HK.out]; decide), many_zero HK.out, HC.out]; rfl, below_setCells' (w.heap.size + 1 + 1) (by omega) _ 0 HB4.out⟩
end Go.Proofs.Ytpgjjdpblilljaa
