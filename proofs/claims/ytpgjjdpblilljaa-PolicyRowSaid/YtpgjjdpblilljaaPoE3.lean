/- policy.Next of kind 3. -/
import Derived.Test.YtpgjjdpblilljaaPoE
import Derived.Deep.RegionHeld
import Derived.Deep.CutRange
namespace Go.Proofs.Ytpgjjdpblilljaa
set_option linter.unusedSimpArgs false
set_option linter.unusedVariables false
open Go.RowKit
open Evn Plc
attribute [local go_sem] Oper.semAt_some

set_option maxRecDepth 100000 in
set_option maxHeartbeats 3200000 in
theorem pnext3 {w : World} {p : Pl} {a1 a2 : Option Addr} {c1 c2 : Nat} (hk : p.kind = 3) (h1 : PRow w a1 p.bands.length c1 p.bands) (h2 : PRow w a2 p.slots.length c2 p.slots) (s e : Int) (h : Bool) (c u t : Int) :
    Calls Try.prog 11 #[plV p a1 a2 c1 c2, stV s e h, .int .i64 c, .int .i64 u, .int .i64 t] w fun r w' =>
      r = .returned (.tuple #[staV (carry p (s, e, h) u), .int .i64 (many p (s, e, h) c u t)]) ∧ Below w.heap.size w w' := by
  obtain ⟨x, hx⟩ : ∃ x, x = ((w.alloc (.cells #[.int .i64 p.kind, .int .i64 p.target, .slice a1 p.bands.length c1, .int .i64 p.kp, .int .i64 p.ki, .int .i64 p.kd, .int .i64 p.period, .slice a2 p.slots.length c2] 25)).alloc (.cells #[.int .i64 s, .int .i64 e, .bool h] 27)).alloc (.cells #[.int .i64 0, .int .i64 0, .bool false] 27) := ⟨_, rfl⟩
  obtain ⟨hB, hP, hS, hZ⟩ := NB.new w p a1 a2 c1 c2 s e h
  rw [← hx] at hB hP hS hZ
  have HKC : Hid (x.cell? ⟨w.heap.size, 0, none⟩ = some (.int .i64 3)) := by show _ = _; rw [(cell_of_row _ _ 0 _ _ _ hP)]; exact congrArg (fun v => some (Value.int .i64 v)) hk
  have HK := Lib.hid hk
  clear hk
  have HB := Lib.hid hB
  have HP := Lib.hid hP
  have HS := Lib.hid hS
  have HZ := Lib.hid hZ
  have HX := Lib.hid hx
  have H1 := Lib.hid (h1.on hB)
  have H2 := Lib.hid (h2.on hB)
  clear hB hP hS hZ hx h1 h2
  obtain ⟨C, hC⟩ : ∃ C, C = rep c := ⟨_, rfl⟩
  have HC := Lib.hid hC.symm
  have HC2 : Hid (0 ≤ C ∧ C ≤ 1000) := by show _ ∧ _; rw [hC]; exact rep_le c
  clear hC
  unfold plV stV
  go_enter Try.func11, Try.ntmps11
  go_wp2_with fail
  refine (pbounded_any c _).mono ?_
  rintro r w9 ⟨rfl, rfl⟩
  rw [HC.out]
  go_upto_region 2 with fail
  rw [← HX.out]
  go_cut [12, 13] from 12 to 28 (fun vt vu wx => ∃ g gd, vt = .pointer (some ⟨gd, 0, none⟩) ∧ vu = .bool true ∧ x.heap.size ≤ gd ∧ wx.heap[gd]? = some (.cells #[(.func (.func 40) #[] #[.pointer (some ⟨g, 0, none⟩), .pointer (some ⟨g + 1 + 1, 0, none⟩)]), (.func (.func 42) #[] #[.pointer (some ⟨g + 1, 0, none⟩)])] 48 (0, 0)) ∧ KX x wx g p a1 a2 c1 c2 C u t)
  case first =>
    refine wp_region_held_drew (S := fun wy => wy.cell? ⟨w.heap.size, 0, none⟩ = some (.int .i64 3) ∧ Below x.heap.size x wy) (by kernel_rfl) ⟨HKC.out, Below.drew (Below.refl _ _)⟩ (fun hHeld => ?_)
    refine wpAnyH_take (i := 0) (v := .agg #[.int .i64 p.kind, .int .i64 p.target, .slice a1 p.bands.length c1, .int .i64 p.kp, .int .i64 p.ki, .int .i64 p.kd, .int .i64 p.period, .slice a2 p.slots.length c2]) rfl (by kernel_rfl) (by kernel_rfl) (by kernel_rfl) (fun _ _ _ h => h) (Or.inl ⟨by rfl, fun wz hS => exec_row 25 (.tmp 5) rfl w.heap.size rfl 25 _ (0, 0) _ (HP.out.on hS.2) Try.underlying25 rfl (by kernel_rfl)⟩) (by assumption) ?_
    try simp only [Act.put, List.getElem_toArray, List.getElem_cons_succ, List.getElem_cons_zero, List.setIfInBounds_toArray, List.set_cons_zero, List.set_cons_succ]
    refine wpAnyH_take (i := 1) (v := ?_) rfl (by kernel_rfl) (by kernel_rfl) (by kernel_rfl) (fun _ _ _ h => h) (Or.inl ⟨by rfl, ?_⟩) (by assumption) ?_
    rotate_left
    · intro w hSw
      (try dsimp only at hSw)
      go_simp
      all_goals with_reducible rfl
    try simp only [Act.put, List.getElem_toArray, List.getElem_cons_succ, List.getElem_cons_zero, List.setIfInBounds_toArray, List.set_cons_zero, List.set_cons_succ]
    refine wpAnyH_take (i := 2) (v := ?_) rfl (by kernel_rfl) (by kernel_rfl) (by kernel_rfl) (fun _ _ _ h => h) (Or.inl ⟨by rfl, ?_⟩) (by assumption) ?_
    rotate_left
    · intro w hSw
      (try dsimp only at hSw)
      go_simp
      all_goals with_reducible rfl
    try simp only [Act.put, List.getElem_toArray, List.getElem_cons_succ, List.getElem_cons_zero, List.setIfInBounds_toArray, List.set_cons_zero, List.set_cons_succ]
    refine wpAnyH_take (i := 3) (v := ?_) rfl (by kernel_rfl) (by kernel_rfl) (by kernel_rfl) (fun _ _ _ h => h) (Or.inl ⟨by rfl, ?_⟩) (by assumption) ?_
    rotate_left
    · intro w hSw
      (try dsimp only at hSw)
      go_simp
      all_goals with_reducible rfl
    try simp only [Act.put, List.getElem_toArray, List.getElem_cons_succ, List.getElem_cons_zero, List.setIfInBounds_toArray, List.set_cons_zero, List.set_cons_succ]
    refine wpAnyH_take (i := 5) (v := ?_) rfl (by kernel_rfl) (by kernel_rfl) (by kernel_rfl) (fun _ _ _ h => h) (Or.inl ⟨by rfl, ?_⟩) (by assumption) ?_
    rotate_left
    · intro w hSw
      (try dsimp only at hSw)
      go_simp
      all_goals with_reducible rfl
    try simp only [Act.put, List.getElem_toArray, List.getElem_cons_succ, List.getElem_cons_zero, List.setIfInBounds_toArray, List.set_cons_zero, List.set_cons_succ]
    refine wpAnyH_take (i := 6) (v := ?_) rfl (by kernel_rfl) (by kernel_rfl) (by kernel_rfl) (fun _ _ _ h => h) (Or.inl ⟨by rfl, ?_⟩) (by assumption) ?_
    rotate_left
    · intro w hSw
      (try dsimp only at hSw)
      go_simp
      all_goals with_reducible rfl
    try simp only [Act.put, List.getElem_toArray, List.getElem_cons_succ, List.getElem_cons_zero, List.setIfInBounds_toArray, List.set_cons_zero, List.set_cons_succ]
    have hB0 := hHeld.2
    clear hHeld
    generalize x.drew = wa0 at hB0 ⊢
    refine wpAnyH_ready (rs := [4, 11]) (by kernel_rfl) (by simp) ?_
    refine AllReadyH.cons rfl (fun K hK => ?_) (AllReadyH.cons rfl (fun K hK => ?_) AllReadyH.nil)
    · rw [if_pos (by rfl)]
      go_simp
      go_at_call 22
      refine (kinds_any p a1 a2 c1 c2 C u t _).mono ?_
      rintro r wa1 ⟨g, rfl, kx⟩
      have kx := kx.base hB0
      clear hB0
      refine hK.out _ _ ?_ (fun hHeld => ?_)
      · exact ⟨(kx.bel.cell (p := ⟨w.heap.size, 0, none⟩) (block_lt_of_cell HKC.out)).trans HKC.out, kx.bel⟩
      clear hK K
      try simp only [Act.put, List.getElem_toArray, List.getElem_cons_succ, List.getElem_cons_zero, List.setIfInBounds_toArray, List.set_cons_zero, List.set_cons_succ]
      refine held_to (S' := (fun wy => (wy.cell? ⟨w.heap.size, 0, none⟩ = some (.int .i64 3) ∧ Below x.heap.size x wy) ∧ KX x wy g p a1 a2 c1 c2 C u t)) (fun _ h => h.1) ⟨⟨(kx.bel.cell (p := ⟨w.heap.size, 0, none⟩) (block_lt_of_cell HKC.out)).trans HKC.out, kx.bel⟩, kx⟩ (fun hHeld => ?_)
      refine wpAnyH_take (i := 7) (v := .tuple #[.agg #[(.func (.func 40) #[] #[.pointer (some ⟨g, 0, none⟩), .pointer (some ⟨g + 1 + 1, 0, none⟩)]), (.func (.func 42) #[] #[.pointer (some ⟨g + 1, 0, none⟩)])], .bool true]) rfl (by kernel_rfl) (by kernel_rfl) (by kernel_rfl) (fun _ _ _ h => h) (Or.inl ⟨by rfl, fun wz hS => exec_look rfl rfl rfl (run_look wz _ _ _ _ 2 _ hS.2.mp (by kernel_rfl))⟩) (by assumption) ?_
      try simp only [Act.put, List.getElem_toArray, List.getElem_cons_succ, List.getElem_cons_zero, List.setIfInBounds_toArray, List.set_cons_zero, List.set_cons_succ]
      refine wpAnyH_take (i := 8) (v := ?_) rfl (by kernel_rfl) (by kernel_rfl) (by kernel_rfl) (fun _ _ _ h => h) (Or.inl ⟨by rfl, ?_⟩) (by assumption) ?_
      rotate_left
      · intro w hSw
        (try dsimp only at hSw)
        go_simp
        all_goals with_reducible rfl
      try simp only [Act.put, List.getElem_toArray, List.getElem_cons_succ, List.getElem_cons_zero, List.setIfInBounds_toArray, List.set_cons_zero, List.set_cons_succ]
      refine wpAnyH_take (i := 9) (v := ?_) rfl (by kernel_rfl) (by kernel_rfl) (by kernel_rfl) (fun _ _ _ h => h) (Or.inl ⟨by rfl, ?_⟩) (by assumption) ?_
      rotate_left
      · intro w hSw
        (try dsimp only at hSw)
        go_simp
        all_goals with_reducible rfl
      try simp only [Act.put, List.getElem_toArray, List.getElem_cons_succ, List.getElem_cons_zero, List.setIfInBounds_toArray, List.set_cons_zero, List.set_cons_succ]
      refine wpAnyH_take (i := 10) (v := ?_) rfl (by kernel_rfl) (by kernel_rfl) (by kernel_rfl) (fun _ _ _ h => h) (Or.inl ⟨by rfl, ?_⟩) (by assumption) ?_
      rotate_left
      · intro w hSw
        (try dsimp only at hSw)
        go_simp
        all_goals with_reducible rfl
      try simp only [Act.put, List.getElem_toArray, List.getElem_cons_succ, List.getElem_cons_zero, List.setIfInBounds_toArray, List.set_cons_zero, List.set_cons_succ]
      refine wpAnyH_ready (rs := [11]) (by kernel_rfl) (by simp) ?_
      refine AllReadyH.cons rfl (fun K hK => ?_) AllReadyH.nil
      rw [if_pos (by rfl)]
      go_simp
      have hA := (Below.refl wa1.heap.size wa1).alloc (Nat.le_refl _) (.cells #[.nilFunc, .nilFunc] 48)
      have hgd := lt_of_heap kx.mp
      have kx := kx.on hA
      have lz := Nat.le_trans (Nat.le_refl x.heap.size) (Nat.le_trans kx.le (by omega : g ≤ wa1.heap.size))
      have Z := Lib.hid (heap_alloc_new wa1 (.cells #[.nilFunc, .nilFunc] 48))
      obtain ⟨gd, hg2⟩ : ∃ gd, gd = wa1.heap.size := ⟨_, rfl⟩
      rw [← hg2] at Z lz hgd ⊢
      clear hA hg2
      generalize wa1.alloc (.cells #[.nilFunc, .nilFunc] 48) = wa2 at kx Z ⊢
      refine hK.out _ _ ?_ (fun hHeld => ?_)
      · exact ⟨⟨(kx.bel.cell (p := ⟨w.heap.size, 0, none⟩) (block_lt_of_cell HKC.out)).trans HKC.out, kx.bel⟩, kx⟩
      clear hK K
      try simp only [Act.put, List.getElem_toArray, List.getElem_cons_succ, List.getElem_cons_zero, List.setIfInBounds_toArray, List.set_cons_zero, List.set_cons_succ]
      refine wpAnyH_ready (rs := [12]) (by kernel_rfl) (by simp) ?_
      refine AllReadyH.cons rfl (fun K hK => ?_) AllReadyH.nil
      rw [if_pos (by rfl)]
      refine wp_store_mid 48 (.tmp 12) (.tmp 27) (by rfl) gd 0 #[(.func (.func 40) #[] #[.pointer (some ⟨g, 0, none⟩), .pointer (some ⟨g + 1 + 1, 0, none⟩)]), (.func (.func 42) #[] #[.pointer (some ⟨g + 1, 0, none⟩)])] (by rfl) (by rfl) (there_of_block Z.out (by simp)) (by kernel_rfl) (by kernel_rfl) ?_
      have Z2 := Lib.hid (heap_setCells_whole (cs := [Value.nilFunc, Value.nilFunc]) (#[(.func (.func 40) #[] #[.pointer (some ⟨g, 0, none⟩), .pointer (some ⟨g + 1 + 1, 0, none⟩)]), (.func (.func 42) #[] #[.pointer (some ⟨g + 1, 0, none⟩)])] : Array Value).toList rfl Z.out)
      have kx2 := kx.put lz (.inr hgd) (#[(.func (.func 40) #[] #[.pointer (some ⟨g, 0, none⟩), .pointer (some ⟨g + 1 + 1, 0, none⟩)]), (.func (.func 42) #[] #[.pointer (some ⟨g + 1, 0, none⟩)])] : Array Value).toList
      have HX2 := Lib.hid kx2
      clear kx
      refine hK.out _ _ ?_ (fun hHeld => ?_)
      · exact ⟨⟨(kx2.bel.cell (p := ⟨w.heap.size, 0, none⟩) (block_lt_of_cell HKC.out)).trans HKC.out, kx2.bel⟩, kx2⟩
      clear hK K
      try simp only [Act.put, List.getElem_toArray, List.getElem_cons_succ, List.getElem_cons_zero, List.setIfInBounds_toArray, List.set_cons_zero, List.set_cons_succ]
      refine wpAnyH_take (i := 13) (v := ?_) rfl (by kernel_rfl) (by kernel_rfl) (by kernel_rfl) (fun _ _ _ h => h) (Or.inl ⟨by rfl, ?_⟩) (by assumption) ?_
      rotate_left
      · intro w hSw
        (try dsimp only at hSw)
        go_simp
        all_goals with_reducible rfl
      try simp only [Act.put, List.getElem_toArray, List.getElem_cons_succ, List.getElem_cons_zero, List.setIfInBounds_toArray, List.set_cons_zero, List.set_cons_succ]
      refine wpAnyH_done (by kernel_rfl) ?_ _
      go_wp2_with fail
      go_meet
      exact ⟨_, _, rfl, rfl, lz, Z2.out, HX2.out⟩
    · rw [if_pos (by rfl)]
      go_simp
      have hB1 := hB0.alloc hB0.size (.cells #[.nilFunc, .nilFunc] 48)
      have lz := hB0.size
      have Z := Lib.hid (heap_alloc_new wa0 (.cells #[.nilFunc, .nilFunc] 48))
      have hlt := lt_of_heap Z.out
      obtain ⟨gd, hg2⟩ : ∃ gd, gd = wa0.heap.size := ⟨_, rfl⟩
      rw [← hg2] at Z lz hlt ⊢
      clear hg2 hB0
      generalize wa0.alloc (.cells #[.nilFunc, .nilFunc] 48) = wa1 at hB1 Z hlt ⊢
      refine hK.out _ _ ?_ (fun hHeld => ?_)
      · exact ⟨(hB1.cell (p := ⟨w.heap.size, 0, none⟩) (block_lt_of_cell HKC.out)).trans HKC.out, hB1⟩
      clear hK K
      try simp only [Act.put, List.getElem_toArray, List.getElem_cons_succ, List.getElem_cons_zero, List.setIfInBounds_toArray, List.set_cons_zero, List.set_cons_succ]
      refine wpAnyH_ready (rs := [4]) (by kernel_rfl) (by simp) ?_
      refine AllReadyH.cons rfl (fun K hK => ?_) AllReadyH.nil
      rw [if_pos (by rfl)]
      go_simp
      go_at_call 22
      refine (kinds_any p a1 a2 c1 c2 C u t _).mono ?_
      rintro r wa2 ⟨g, rfl, kx⟩
      have hgd : gd < g := Nat.lt_of_lt_of_le hlt kx.le
      have Z := Lib.hid ((kx.bel.block _ hlt).trans Z.out)
      have kx := kx.base hB1
      clear hB1 hlt
      refine hK.out _ _ ?_ (fun hHeld => ?_)
      · exact ⟨(kx.bel.cell (p := ⟨w.heap.size, 0, none⟩) (block_lt_of_cell HKC.out)).trans HKC.out, kx.bel⟩
      clear hK K
      try simp only [Act.put, List.getElem_toArray, List.getElem_cons_succ, List.getElem_cons_zero, List.setIfInBounds_toArray, List.set_cons_zero, List.set_cons_succ]
      refine held_to (S' := (fun wy => (wy.cell? ⟨w.heap.size, 0, none⟩ = some (.int .i64 3) ∧ Below x.heap.size x wy) ∧ KX x wy g p a1 a2 c1 c2 C u t)) (fun _ h => h.1) ⟨⟨(kx.bel.cell (p := ⟨w.heap.size, 0, none⟩) (block_lt_of_cell HKC.out)).trans HKC.out, kx.bel⟩, kx⟩ (fun hHeld => ?_)
      refine wpAnyH_take (i := 7) (v := .tuple #[.agg #[(.func (.func 40) #[] #[.pointer (some ⟨g, 0, none⟩), .pointer (some ⟨g + 1 + 1, 0, none⟩)]), (.func (.func 42) #[] #[.pointer (some ⟨g + 1, 0, none⟩)])], .bool true]) rfl (by kernel_rfl) (by kernel_rfl) (by kernel_rfl) (fun _ _ _ h => h) (Or.inl ⟨by rfl, fun wz hS => exec_look rfl rfl rfl (run_look wz _ _ _ _ 2 _ hS.2.mp (by kernel_rfl))⟩) (by assumption) ?_
      try simp only [Act.put, List.getElem_toArray, List.getElem_cons_succ, List.getElem_cons_zero, List.setIfInBounds_toArray, List.set_cons_zero, List.set_cons_succ]
      refine wpAnyH_take (i := 8) (v := ?_) rfl (by kernel_rfl) (by kernel_rfl) (by kernel_rfl) (fun _ _ _ h => h) (Or.inl ⟨by rfl, ?_⟩) (by assumption) ?_
      rotate_left
      · intro w hSw
        (try dsimp only at hSw)
        go_simp
        all_goals with_reducible rfl
      try simp only [Act.put, List.getElem_toArray, List.getElem_cons_succ, List.getElem_cons_zero, List.setIfInBounds_toArray, List.set_cons_zero, List.set_cons_succ]
      refine wpAnyH_take (i := 9) (v := ?_) rfl (by kernel_rfl) (by kernel_rfl) (by kernel_rfl) (fun _ _ _ h => h) (Or.inl ⟨by rfl, ?_⟩) (by assumption) ?_
      rotate_left
      · intro w hSw
        (try dsimp only at hSw)
        go_simp
        all_goals with_reducible rfl
      try simp only [Act.put, List.getElem_toArray, List.getElem_cons_succ, List.getElem_cons_zero, List.setIfInBounds_toArray, List.set_cons_zero, List.set_cons_succ]
      refine wpAnyH_take (i := 10) (v := ?_) rfl (by kernel_rfl) (by kernel_rfl) (by kernel_rfl) (fun _ _ _ h => h) (Or.inl ⟨by rfl, ?_⟩) (by assumption) ?_
      rotate_left
      · intro w hSw
        (try dsimp only at hSw)
        go_simp
        all_goals with_reducible rfl
      try simp only [Act.put, List.getElem_toArray, List.getElem_cons_succ, List.getElem_cons_zero, List.setIfInBounds_toArray, List.set_cons_zero, List.set_cons_succ]
      refine wpAnyH_ready (rs := [12]) (by kernel_rfl) (by simp) ?_
      refine AllReadyH.cons rfl (fun K hK => ?_) AllReadyH.nil
      rw [if_pos (by rfl)]
      refine wp_store_mid 48 (.tmp 12) (.tmp 27) (by rfl) gd 0 #[(.func (.func 40) #[] #[.pointer (some ⟨g, 0, none⟩), .pointer (some ⟨g + 1 + 1, 0, none⟩)]), (.func (.func 42) #[] #[.pointer (some ⟨g + 1, 0, none⟩)])] (by rfl) (by rfl) (there_of_block Z.out (by simp)) (by kernel_rfl) (by kernel_rfl) ?_
      have Z2 := Lib.hid (heap_setCells_whole (cs := [Value.nilFunc, Value.nilFunc]) (#[(.func (.func 40) #[] #[.pointer (some ⟨g, 0, none⟩), .pointer (some ⟨g + 1 + 1, 0, none⟩)]), (.func (.func 42) #[] #[.pointer (some ⟨g + 1, 0, none⟩)])] : Array Value).toList rfl Z.out)
      have kx2 := kx.put lz (.inl hgd) (#[(.func (.func 40) #[] #[.pointer (some ⟨g, 0, none⟩), .pointer (some ⟨g + 1 + 1, 0, none⟩)]), (.func (.func 42) #[] #[.pointer (some ⟨g + 1, 0, none⟩)])] : Array Value).toList
      have HX2 := Lib.hid kx2
      clear kx
      refine hK.out _ _ ?_ (fun hHeld => ?_)
      · exact ⟨⟨(kx2.bel.cell (p := ⟨w.heap.size, 0, none⟩) (block_lt_of_cell HKC.out)).trans HKC.out, kx2.bel⟩, kx2⟩
      clear hK K
      try simp only [Act.put, List.getElem_toArray, List.getElem_cons_succ, List.getElem_cons_zero, List.setIfInBounds_toArray, List.set_cons_zero, List.set_cons_succ]
      refine wpAnyH_take (i := 13) (v := ?_) rfl (by kernel_rfl) (by kernel_rfl) (by kernel_rfl) (fun _ _ _ h => h) (Or.inl ⟨by rfl, ?_⟩) (by assumption) ?_
      rotate_left
      · intro w hSw
        (try dsimp only at hSw)
        go_simp
        all_goals with_reducible rfl
      try simp only [Act.put, List.getElem_toArray, List.getElem_cons_succ, List.getElem_cons_zero, List.setIfInBounds_toArray, List.set_cons_zero, List.set_cons_succ]
      refine wpAnyH_done (by kernel_rfl) ?_ _
      go_wp2_with fail
      go_meet
      exact ⟨_, _, rfl, rfl, lz, Z2.out, HX2.out⟩
  case rest =>
  obtain ⟨g, gd, rfl, rfl, lz, Z, kx⟩ := hcut
  generalize wc = w4 at *
  have HK4 := Lib.hid kx
  have HZ4 := Lib.hid Z
  clear kx Z
  have hn1 : gd ≠ w.heap.size + 1 + 1 := by have := lt_of_heap HZ.out; omega
  have hf0 := (cell_of_row _ _ 0 _ _ _ HZ4.out).trans rfl
  have HS4 := Lib.hid (HS.out.on HK4.out.bel)
  have HR4 := Lib.hid (HZ.out.on HK4.out.bel)
  have HB4 := Lib.hid (bel2 HB.out HK4.out.bel)
  have H14 := Lib.hid (H1.out.on HK4.out.bel)
  have H24 := Lib.hid (H2.out.on HK4.out.bel)
  obtain ⟨cs0, cs1, cs2, _⟩ := StAt.c HS4.out (Below.refl _ _)
  clear HS HZ HB H1 H2
  try unfold kept at hf0
  go_wp2_with fail
  refine (k4_any HK4.out.bp HK4.out.bu s e h).mono ?_
  rintro r w5 ⟨rfl, b5⟩
  try unfold stV
  have HK5 := Lib.hid (HK4.out.on b5)
  have HZ5 := Lib.hid ((b5.block _ (lt_of_heap HZ4.out)).trans HZ4.out)
  have HR5 := Lib.hid (HR4.out.on b5)
  have HB5 := Lib.hid (bel2 HB4.out b5)
  have H15 := Lib.hid (H14.out.on b5)
  have H25 := Lib.hid (H24.out.on b5)
  clear hf0 HS4 cs0 cs1 cs2 HK4 HZ4 HR4 HB4 H14 H24 b5
  have hwt := And.intro (Pd.wnt_le p.kp p.ki p.kd (pdE p u) (pdS p (s, e, h) u) (Pd.chg h (pdE p u) e)) HC2.out
  have hw : IntKind.i64.wrap (C + Pd.wnt p.kp p.ki p.kd (pdE p u) (pdS p (s, e, h) u) (Pd.chg h (pdE p u) e)) = C + Pd.wnt p.kp p.ki p.kd (pdE p u) (pdS p (s, e, h) u) (Pd.chg h (pdE p u) e) := by rw [IntKind.wrap_i64]; omega
  clear hwt
  go_upto_region 6 with fail
  obtain ⟨w6, hw6⟩ : ∃ w6, w6 = w5.alloc (.cells #[.int .i64 (pdS p (s, e, h) u), .int .i64 (pdE p u), .bool true] 27) := ⟨_, rfl⟩
  rw [← hw6]
  have b6 : Below w5.heap.size w5 w6 := by rw [hw6]; exact (Below.refl _ _).alloc (Nat.le_refl _) _
  have HN6 : Hid (StAt w6 w5.heap.size (pdS p (s, e, h) u) (pdE p u) true) := by show StAt _ _ _ _ _; rw [hw6]; exact heap_alloc_new _ _
  clear hw6
  have hn2 : w5.heap.size ≠ w.heap.size + 1 + 1 := by have := lt_of_heap HR5.out; omega
  obtain ⟨gs, hgs⟩ : ∃ gs, gs = w5.heap.size := ⟨_, rfl⟩
  rw [← hgs] at HN6 hn2 ⊢
  clear hgs
  have HK6 := Lib.hid (HK5.out.on b6)
  have HZ6 := Lib.hid ((b6.block _ (lt_of_heap HZ5.out)).trans HZ5.out)
  have HR6 := Lib.hid (HR5.out.on b6)
  have HB6 := Lib.hid (bel2 HB5.out b6)
  have H16 := Lib.hid (H15.out.on b6)
  have H26 := Lib.hid (H25.out.on b6)
  clear HK5 HZ5 HR5 HB5 H15 H25 b6
  have hn1 := Lib.hid hn1
  have hn2 := Lib.hid hn2
  refine wp_region_held_drew (S := fun wy => wy.cell? ⟨gd, 1, none⟩ = some (.func (.func 42) #[] #[.pointer (some ⟨g + 1, 0, none⟩)]) ∧ wy.cell? ⟨gs, 0, none⟩ = some (.int .i64 (pdS p (s, e, h) u)) ∧ wy.cell? ⟨gs, 1, none⟩ = some (.int .i64 (pdE p u)) ∧ wy.cell? ⟨gs, 2, none⟩ = some (.bool true)) (by kernel_rfl) (⟨((Below.drew (Below.refl _ _)).cell (p := ⟨gd, 1, none⟩) (lt_of_heap HZ6.out)).trans ((cell_of_row _ _ 1 _ _ _ HZ6.out).trans rfl), (StAt.c HN6.out (Below.drew (Below.refl _ _))).1, (StAt.c HN6.out (Below.drew (Below.refl _ _))).2.1, (StAt.c HN6.out (Below.drew (Below.refl _ _))).2.2.1⟩) (fun hHeld => ?_)
  refine wpAnyH_take (i := 0) (v := ?_) rfl (by kernel_rfl) (by kernel_rfl) (by kernel_rfl) (fun _ _ _ h => h) (Or.inl ⟨by rfl, ?_⟩) (by assumption) ?_
  rotate_left
  · intro w hSw
    (try dsimp only at hSw)
    go_simp
    all_goals with_reducible rfl
  try simp only [Act.put, List.getElem_toArray, List.getElem_cons_succ, List.getElem_cons_zero, List.setIfInBounds_toArray, List.set_cons_zero, List.set_cons_succ]
  refine wpAnyH_take (i := 1) (v := ?_) rfl (by kernel_rfl) (by kernel_rfl) (by kernel_rfl) (fun _ _ _ h => h) (Or.inl ⟨by rfl, ?_⟩) (by assumption) ?_
  rotate_left
  · intro w hSw
    (try dsimp only at hSw)
    go_simp
    all_goals with_reducible rfl
  try simp only [Act.put, List.getElem_toArray, List.getElem_cons_succ, List.getElem_cons_zero, List.setIfInBounds_toArray, List.set_cons_zero, List.set_cons_succ]
  refine wpAnyH_take (i := 2) (v := ?_) rfl (by kernel_rfl) (by kernel_rfl) (by kernel_rfl) (fun _ _ _ h => h) (Or.inl ⟨by rfl, ?_⟩) (by assumption) ?_
  rotate_left
  · intro w hSw
    (try dsimp only at hSw)
    go_simp
    all_goals with_reducible rfl
  try simp only [Act.put, List.getElem_toArray, List.getElem_cons_succ, List.getElem_cons_zero, List.setIfInBounds_toArray, List.set_cons_zero, List.set_cons_succ]
  refine wpAnyH_take (i := 4) (v := ?_) rfl (by kernel_rfl) (by kernel_rfl) (by kernel_rfl) (fun _ _ _ h => h) (Or.inl ⟨by rfl, ?_⟩) (by assumption) ?_
  rotate_left
  · intro w hSw
    (try dsimp only at hSw)
    go_simp
    all_goals with_reducible rfl
  try simp only [Act.put, List.getElem_toArray, List.getElem_cons_succ, List.getElem_cons_zero, List.setIfInBounds_toArray, List.set_cons_zero, List.set_cons_succ]
  have hB0 : Below w6.heap.size w6 w6.drew := Below.drew (Below.refl _ _)
  clear hHeld
  generalize w6.drew = wb0 at hB0 ⊢
  have kx := HK6.out.on hB0
  have H1 := H16.out.on hB0
  have H2 := H26.out.on hB0
  refine wpAnyH_ready (rs := [3]) (by kernel_rfl) (by simp) ?_
  refine AllReadyH.cons rfl (fun K hK => ?_) AllReadyH.nil
  rw [if_pos (by rfl)]
  go_simp
  go_at_call 42
  refine (k5_any (g + 1) C _ kx.bc).mono ?_
  rintro r wb1 ⟨rfl, b⟩
  have hB1 := bel2 hB0 b
  clear b hB0 kx H1 H2
  refine hK.out _ _ ?_ (fun hHeld => ?_)
  · exact ⟨(hB1.cell (p := ⟨gd, 1, none⟩) (lt_of_heap HZ6.out)).trans ((cell_of_row _ _ 1 _ _ _ HZ6.out).trans rfl), (StAt.c HN6.out hB1).1, (StAt.c HN6.out hB1).2.1, (StAt.c HN6.out hB1).2.2.1⟩
  clear hK K
  try simp only [Act.put, List.getElem_toArray, List.getElem_cons_succ, List.getElem_cons_zero, List.setIfInBounds_toArray, List.set_cons_zero, List.set_cons_succ]
  refine wpAnyH_take (i := 5) (v := ?_) rfl (by kernel_rfl) (by kernel_rfl) (by kernel_rfl) (fun _ _ _ h => h) (Or.inl ⟨by rfl, ?_⟩) (by assumption) ?_
  rotate_left
  · intro w hSw
    (try dsimp only at hSw)
    go_simp
    all_goals with_reducible rfl
  try simp only [Act.put, List.getElem_toArray, List.getElem_cons_succ, List.getElem_cons_zero, List.setIfInBounds_toArray, List.set_cons_zero, List.set_cons_succ]
  refine take_first (i := 6) rfl (by kernel_rfl) (by kernel_rfl) (by kernel_rfl) (fun _ _ _ h => h) (GivesIf.call (by rfl) (fun w => ?_) (fun w hS => pbounded_any (C + Pd.wnt p.kp p.ki p.kd (pdE p u) (pdS p (s, e, h) u) (Pd.chg h (pdE p u) e)) w)) (by assumption) ?_
  · go_simp
    all_goals with_reducible rfl
  try simp only [Act.put, List.getElem_toArray, List.getElem_cons_succ, List.getElem_cons_zero, List.setIfInBounds_toArray, List.set_cons_zero, List.set_cons_succ]
  refine wpAnyH_ready (rs := [7]) (by kernel_rfl) (by simp) ?_
  refine AllReadyH.cons rfl (fun K hK => ?_) AllReadyH.nil
  rw [if_pos (by rfl)]
  have HR7 := HR6.out.on hB1
  refine wp_store_mid 27 (.tmp 10) (.tmp 40) (by rfl) (w.heap.size + 1 + 1) 0 #[.int .i64 (pdS p (s, e, h) u), .int .i64 (pdE p u), .bool true] (by rfl) (by rfl) (there_of_block HR7 (by simp)) (by kernel_rfl) (by kernel_rfl) ?_
  have hz := Lib.hid (heap_setCells_whole (cs := [Value.int .i64 0, .int .i64 0, .bool false]) (#[.int .i64 (pdS p (s, e, h) u), .int .i64 (pdE p u), .bool true] : Array Value).toList rfl HR7)
  have hBz := Lib.hid (below_setCells' (w.heap.size + 1 + 1) (by omega) (#[.int .i64 (pdS p (s, e, h) u), .int .i64 (pdE p u), .bool true] : Array Value).toList 0 (bel2 HB6.out hB1))
  have hHz : _ ∧ _ ∧ _ ∧ _ := ⟨(hB1.cell (p := ⟨gd, 1, none⟩) (lt_of_heap HZ6.out)).trans ((cell_of_row _ _ 1 _ _ _ HZ6.out).trans rfl), (StAt.c HN6.out hB1).1, (StAt.c HN6.out hB1).2.1, (StAt.c HN6.out hB1).2.2.1⟩
  refine hK.out _ _ ?_ (fun hHeld => ?_)
  · exact ⟨(World.cell?_of_block (w := wb1) (a := ⟨gd, 1, none⟩) (kx_far gd (w.heap.size + 1 + 1) hn1.out _ 0 wb1)).trans hHz.1, (World.cell?_of_block (w := wb1) (a := ⟨gs, 0, none⟩) (kx_far gs (w.heap.size + 1 + 1) hn2.out _ 0 wb1)).trans hHz.2.1, (World.cell?_of_block (w := wb1) (a := ⟨gs, 1, none⟩) (kx_far gs (w.heap.size + 1 + 1) hn2.out _ 0 wb1)).trans hHz.2.2.1, (World.cell?_of_block (w := wb1) (a := ⟨gs, 2, none⟩) (kx_far gs (w.heap.size + 1 + 1) hn2.out _ 0 wb1)).trans hHz.2.2.2⟩
  clear hK K
  try simp only [Act.put, List.getElem_toArray, List.getElem_cons_succ, List.getElem_cons_zero, List.setIfInBounds_toArray, List.set_cons_zero, List.set_cons_succ]
  refine wpAnyH_take (i := 8) (v := ?_) rfl (by kernel_rfl) (by kernel_rfl) (by kernel_rfl) (fun _ _ _ h => h) (Or.inl ⟨by rfl, ?_⟩) (by assumption) ?_
  rotate_left
  · intro w hSw
    (try dsimp only at hSw)
    go_simp
    all_goals with_reducible rfl
  try simp only [Act.put, List.getElem_toArray, List.getElem_cons_succ, List.getElem_cons_zero, List.setIfInBounds_toArray, List.set_cons_zero, List.set_cons_succ]
  refine wpAnyH_done (by kernel_rfl) ?_ _
  clear hHz hHeld HR7
  go_wp2_with fail
  refine bodyPost_ret (results_row_tmp1 rfl _ _ (w.heap.size + 1 + 1) _ _ _ _ rfl hz.out Try.underlying27 (by rfl) (by kernel_rfl)) (by rfl) ?_
  exact ⟨by rw [carry_pid HK.out, many_pid HK.out, HC.out]; rfl, hBz.out⟩
end Go.Proofs.Ytpgjjdpblilljaa
