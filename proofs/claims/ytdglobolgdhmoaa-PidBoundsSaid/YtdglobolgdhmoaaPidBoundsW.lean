/- PidBounds: the walk. -/
import Derived.Test.YtdglobolgdhmoaaPdF
namespace Go.Proofs.Ytdglobolgdhmoaa
set_option linter.unusedSimpArgs false
set_option linter.unusedVariables false
open Go.RowKit
open Fx Pd
attribute [local go_sem] Oper.semAt_some

set_option maxRecDepth 100000 in
set_option maxHeartbeats 3200000 in
theorem pidBounds_walk (kk bb pe sl : Value) (t kp ki kd s0 p0 : Int) (h0 : Bool) (a : Option Addr) (n c : Nat) (ks : List Int) (w : World) (hr : Row w w.heap.size a n c 1 (intsC ks)) (hn : ks.length = n) :
    Calls Try.prog 4 #[.agg #[kk, .int .i64 t, bb, .int .i64 kp, .int .i64 ki, .int .i64 kd, pe, sl], .agg #[.int .i64 s0, .int .i64 p0, .bool h0], .slice a n c] w fun r w' => r = .returned (.bool true) ∧ Below w.heap.size w w' := by
  have hle := hr.le
  have hmx := hr.max
  unfold maxLen at hmx
  have RR := Lib.hid hr
  clear hr
  have P0 : Hid (PolAt ((w.alloc (.cells #[kk, .int .i64 t, bb, .int .i64 kp, .int .i64 ki, .int .i64 kd, pe, sl] 30)).alloc (.cells #[.int .i64 s0, .int .i64 p0, .bool h0] 23)) w.heap.size #[kk, .int .i64 t, bb, .int .i64 kp, .int .i64 ki, .int .i64 kd, pe, sl]) := (heap_alloc_old _ _ (by simp)).trans (heap_alloc_new _ _)
  have A0 : Hid (StAt ((w.alloc (.cells #[kk, .int .i64 t, bb, .int .i64 kp, .int .i64 ki, .int .i64 kd, pe, sl] 30)).alloc (.cells #[.int .i64 s0, .int .i64 p0, .bool h0] 23)) (w.heap.size + 1) s0 p0 h0) := by show _ = _; have := heap_alloc_new (w.alloc (.cells #[kk, .int .i64 t, bb, .int .i64 kp, .int .i64 ki, .int .i64 kd, pe, sl] 30)) (.cells #[.int .i64 s0, .int .i64 p0, .bool h0] 23); simpa using this
  have B0 : Hid (Below w.heap.size w ((w.alloc (.cells #[kk, .int .i64 t, bb, .int .i64 kp, .int .i64 ki, .int .i64 kd, pe, sl] 30)).alloc (.cells #[.int .i64 s0, .int .i64 p0, .bool h0] 23))) := ((Below.refl _ _).alloc (Nat.le_refl _) _).alloc (by simp) _
  go_enter Try.func4, Try.ntmps4
  go_wp2_with fail
  refine (head_any _).mono ?_
  rintro r w1 ⟨rfl, b1⟩
  have P1 := Lib.hid (P0.out.on b1)
  have A1 := Lib.hid (A0.out.on b1)
  have B1 := Lib.hid (B0.out.trans (b1.mono B0.out.size))
  clear b1 P0 A0 B0
  by_cases h9 : 900 < n
  · go_wp2
    go_ret
    exact ⟨rfl, B1.out⟩
  have h9 : n ≤ 900 := by omega
  have HN := Lib.hid h9
  go_wp2_with fail
  go_loopw [8] (fun i wx => ∃ (k : Nat) (s p : Int) (h : Bool), k ≤ n ∧ i = .int .i64 (k : Int) ∧ StAt wx (w.heap.size + 1) s p h ∧ PolAt wx w.heap.size #[kk, .int .i64 t, bb, .int .i64 kp, .int .i64 ki, .int .i64 kd, pe, sl] ∧ Below w.heap.size w wx) (fun i _ => n - (intOf i).toNat)
  case atStart => exact ⟨0, s0, p0, h0, Nat.zero_le _, rfl, A1.out, P1.out, B1.out⟩
  case round =>
    clear A1 P1 B1
    obtain ⟨k, s, p, h, hk, rfl, hA, hP, hB⟩ := hrel
    have A1 := Lib.hid hA
    have P1 := Lib.hid hP
    have BW := Lib.hid hB
    clear hA hP hB
    by_cases hlt : k < n
    · have hlt' : (k : Int) < (n : Int) := by omega
      have hk0 : (0 : Int) ≤ (k : Int) := by omega
      obtain ⟨b, o, rfl, hbl, hc⟩ := rcell RR.out BW.out hlt
      simp only [intsC] at hc
      generalize ks.getD k 0 = x at hc
      have HC := Lib.hid hc
      have HBL := Lib.hid hbl
      have HK := Lib.hid hlt
      clear hc hbl hlt
      have Q1 := Lib.hid (lt_of_heap A1.out)
      have Q0 := Lib.hid (lt_of_heap P1.out)
      go_wp2_with fail
      go_cut [9, 10] from 22 to 31 (fun vt vu wx => NewS wr (add s (sub x t)) (sub x t) (wnt kp ki kd (sub x t) (add s (sub x t)) (chg h (sub x t) p)) vt vu wx)
      case first =>
        refine wp_region_held_drew (S := fun wy => wy.cell? ⟨w.heap.size, 0, none⟩ = some (kk) ∧ wy.cell? ⟨w.heap.size, 1, none⟩ = some (.int .i64 t) ∧ wy.cell? ⟨w.heap.size, 2, none⟩ = some (bb) ∧ wy.cell? ⟨w.heap.size, 3, none⟩ = some (.int .i64 kp) ∧ wy.cell? ⟨w.heap.size, 4, none⟩ = some (.int .i64 ki) ∧ wy.cell? ⟨w.heap.size, 5, none⟩ = some (.int .i64 kd) ∧ wy.cell? ⟨w.heap.size, 6, none⟩ = some (pe) ∧ wy.cell? ⟨w.heap.size, 7, none⟩ = some (sl) ∧ wy.cell? ⟨b, o + k, none⟩ = some (.int .i64 x) ∧ wy.cell? ⟨(w.heap.size + 1), 0, none⟩ = some (.int .i64 s) ∧ wy.cell? ⟨(w.heap.size + 1), 1, none⟩ = some (.int .i64 p) ∧ wy.cell? ⟨(w.heap.size + 1), 2, none⟩ = some (.bool h) ∧ Below wr.heap.size wr wy) (by kernel_rfl) (⟨(cell_of_row _ _ _ _ _ _ (P1.out.on (Below.drew (Below.refl _ _)))).trans rfl, (cell_of_row _ _ _ _ _ _ (P1.out.on (Below.drew (Below.refl _ _)))).trans rfl, (cell_of_row _ _ _ _ _ _ (P1.out.on (Below.drew (Below.refl _ _)))).trans rfl, (cell_of_row _ _ _ _ _ _ (P1.out.on (Below.drew (Below.refl _ _)))).trans rfl, (cell_of_row _ _ _ _ _ _ (P1.out.on (Below.drew (Below.refl _ _)))).trans rfl, (cell_of_row _ _ _ _ _ _ (P1.out.on (Below.drew (Below.refl _ _)))).trans rfl, (cell_of_row _ _ _ _ _ _ (P1.out.on (Below.drew (Below.refl _ _)))).trans rfl, (cell_of_row _ _ _ _ _ _ (P1.out.on (Below.drew (Below.refl _ _)))).trans rfl, (Below.cell (p := ⟨b, o + k, none⟩) (Below.drew (Below.refl _ _)) HBL.out).trans HC.out, StAt.c A1.out (Below.drew (Below.refl _ _))⟩) (fun hHeld => ?_)
        refine wpAnyH_take (i := 0) (v := ?_) rfl (by kernel_rfl) (by kernel_rfl) (by kernel_rfl) (fun _ _ _ h => h) (Or.inl ⟨by rfl, ?_⟩) (by assumption) ?_
        rotate_left
        · intro w hSw
          (try dsimp only at hSw)
          go_simp
          all_goals with_reducible rfl
        try simp only [Act.put, List.getElem_toArray, List.getElem_cons_succ, List.getElem_cons_zero, List.setIfInBounds_toArray, List.set_cons_zero, List.set_cons_succ]
        refine wpAnyH_take (i := 1) (v := ?_) rfl (by kernel_rfl) (by kernel_rfl) (by kernel_rfl) (fun _ _ _ h => h) (Or.inl ⟨by rfl, ?_⟩) (by assumption) ?_
        rotate_left
        · intro w hSw
          (try dsimp only at hSw)
          go_simp
          all_goals with_reducible rfl
        try simp only [Act.put, List.getElem_toArray, List.getElem_cons_succ, List.getElem_cons_zero, List.setIfInBounds_toArray, List.set_cons_zero, List.set_cons_succ]
        refine wpAnyH_take (i := 2) (v := ?_) rfl (by kernel_rfl) (by kernel_rfl) (by kernel_rfl) (fun _ _ _ h => h) (Or.inl ⟨by rfl, ?_⟩) (by assumption) ?_
        rotate_left
        · intro w hSw
          (try dsimp only at hSw)
          go_simp
          all_goals with_reducible rfl
        try simp only [Act.put, List.getElem_toArray, List.getElem_cons_succ, List.getElem_cons_zero, List.setIfInBounds_toArray, List.set_cons_zero, List.set_cons_succ]
        refine wpAnyH_take (i := 3) (v := ?_) rfl (by kernel_rfl) (by kernel_rfl) (by kernel_rfl) (fun _ _ _ h => h) (Or.inl ⟨by rfl, ?_⟩) (by assumption) ?_
        rotate_left
        · intro w hSw
          (try dsimp only at hSw)
          go_simp
          all_goals with_reducible rfl
        try simp only [Act.put, List.getElem_toArray, List.getElem_cons_succ, List.getElem_cons_zero, List.setIfInBounds_toArray, List.set_cons_zero, List.set_cons_succ]
        refine wpAnyH_take (i := 4) (v := ?_) rfl (by kernel_rfl) (by kernel_rfl) (by kernel_rfl) (fun _ _ _ h => h) (Or.inl ⟨by rfl, ?_⟩) (by assumption) ?_
        rotate_left
        · intro w hSw
          (try dsimp only at hSw)
          go_simp
          all_goals with_reducible rfl
        try simp only [Act.put, List.getElem_toArray, List.getElem_cons_succ, List.getElem_cons_zero, List.setIfInBounds_toArray, List.set_cons_zero, List.set_cons_succ]
        refine wpAnyH_take (i := 5) (v := ?_) rfl (by kernel_rfl) (by kernel_rfl) (by kernel_rfl) (fun _ _ _ h => h) (Or.inl ⟨by rfl, ?_⟩) (by assumption) ?_
        rotate_left
        · intro w hSw
          (try dsimp only at hSw)
          go_simp
          all_goals with_reducible rfl
        try simp only [Act.put, List.getElem_toArray, List.getElem_cons_succ, List.getElem_cons_zero, List.setIfInBounds_toArray, List.set_cons_zero, List.set_cons_succ]
        have hB0 := hHeld.2.2.2.2.2.2.2.2.2.2.2.2
        clear hHeld
        generalize wr.drew = wa0 at hB0 ⊢
        refine wpAnyH_ready (rs := [6, 10]) (by kernel_rfl) (by simp) ?_
        refine AllReadyH.cons rfl (fun K hK => ?_) (AllReadyH.cons rfl (fun K hK => ?_) AllReadyH.nil)
        · rw [if_pos (by rfl)]
          go_simp
          go_at_call 10
          refine (next_any _ _ _ _ t kp ki kd s p h x _).mono ?_
          rintro r wa1 ⟨rfl, b⟩
          have hB1 := hB0.trans (b.mono hB0.size)
          clear b hB0
          refine hK.out _ _ ?_ (fun hHeld => ?_)
          · exact ⟨(cell_of_row _ _ _ _ _ _ (P1.out.on hB1)).trans rfl, (cell_of_row _ _ _ _ _ _ (P1.out.on hB1)).trans rfl, (cell_of_row _ _ _ _ _ _ (P1.out.on hB1)).trans rfl, (cell_of_row _ _ _ _ _ _ (P1.out.on hB1)).trans rfl, (cell_of_row _ _ _ _ _ _ (P1.out.on hB1)).trans rfl, (cell_of_row _ _ _ _ _ _ (P1.out.on hB1)).trans rfl, (cell_of_row _ _ _ _ _ _ (P1.out.on hB1)).trans rfl, (cell_of_row _ _ _ _ _ _ (P1.out.on hB1)).trans rfl, (Below.cell (p := ⟨b, o + k, none⟩) hB1 HBL.out).trans HC.out, StAt.c A1.out hB1⟩
          clear hK K
          try simp only [Act.put, List.getElem_toArray, List.getElem_cons_succ, List.getElem_cons_zero, List.setIfInBounds_toArray, List.set_cons_zero, List.set_cons_succ]
          refine wpAnyH_take (i := 7) (v := ?_) rfl (by kernel_rfl) (by kernel_rfl) (by kernel_rfl) (fun _ _ _ h => h) (Or.inl ⟨by rfl, ?_⟩) (by assumption) ?_
          rotate_left
          · intro w hSw
            (try dsimp only at hSw)
            go_simp
            all_goals with_reducible rfl
          try simp only [Act.put, List.getElem_toArray, List.getElem_cons_succ, List.getElem_cons_zero, List.setIfInBounds_toArray, List.set_cons_zero, List.set_cons_succ]
          refine wpAnyH_take (i := 8) (v := ?_) rfl (by kernel_rfl) (by kernel_rfl) (by kernel_rfl) (fun _ _ _ h => h) (Or.inl ⟨by rfl, ?_⟩) (by assumption) ?_
          rotate_left
          · intro w hSw
            (try dsimp only at hSw)
            go_simp
            all_goals with_reducible rfl
          try simp only [Act.put, List.getElem_toArray, List.getElem_cons_succ, List.getElem_cons_zero, List.setIfInBounds_toArray, List.set_cons_zero, List.set_cons_succ]
          refine wpAnyH_take (i := 9) (v := ?_) rfl (by kernel_rfl) (by kernel_rfl) (by kernel_rfl) (fun _ _ _ h => h) (Or.inl ⟨by rfl, ?_⟩) (by assumption) ?_
          rotate_left
          · intro w hSw
            (try dsimp only at hSw)
            go_simp
            all_goals with_reducible rfl
          try simp only [Act.put, List.getElem_toArray, List.getElem_cons_succ, List.getElem_cons_zero, List.setIfInBounds_toArray, List.set_cons_zero, List.set_cons_succ]
          refine wpAnyH_ready (rs := [10]) (by kernel_rfl) (by simp) ?_
          refine AllReadyH.cons rfl (fun K hK => ?_) AllReadyH.nil
          rw [if_pos (by rfl)]
          go_simp
          have hB2 := hB1.alloc hB1.size (.cells #[.int .i64 0, .int .i64 0, .bool false] 23)
          have Z := Lib.hid (heap_alloc_new wa1 (.cells #[.int .i64 0, .int .i64 0, .bool false] 23))
          have lz : wr.heap.size ≤ wa1.heap.size := hB1.size
          generalize wa1.alloc (.cells #[.int .i64 0, .int .i64 0, .bool false] 23) = wa2 at hB2 Z ⊢
          clear hB1
          refine hK.out _ _ ?_ (fun hHeld => ?_)
          · exact ⟨(cell_of_row _ _ _ _ _ _ (P1.out.on hB2)).trans rfl, (cell_of_row _ _ _ _ _ _ (P1.out.on hB2)).trans rfl, (cell_of_row _ _ _ _ _ _ (P1.out.on hB2)).trans rfl, (cell_of_row _ _ _ _ _ _ (P1.out.on hB2)).trans rfl, (cell_of_row _ _ _ _ _ _ (P1.out.on hB2)).trans rfl, (cell_of_row _ _ _ _ _ _ (P1.out.on hB2)).trans rfl, (cell_of_row _ _ _ _ _ _ (P1.out.on hB2)).trans rfl, (cell_of_row _ _ _ _ _ _ (P1.out.on hB2)).trans rfl, (Below.cell (p := ⟨b, o + k, none⟩) hB2 HBL.out).trans HC.out, StAt.c A1.out hB2⟩
          clear hK K
          try simp only [Act.put, List.getElem_toArray, List.getElem_cons_succ, List.getElem_cons_zero, List.setIfInBounds_toArray, List.set_cons_zero, List.set_cons_succ]
          refine wpAnyH_ready (rs := [11]) (by kernel_rfl) (by simp) ?_
          refine AllReadyH.cons rfl (fun K hK => ?_) AllReadyH.nil
          rw [if_pos (by rfl)]
          refine wp_store_mid 23 (.tmp 9) (.tmp 30) (by rfl) wa1.heap.size 0 #[.int .i64 (add s (sub x t)), .int .i64 (sub x t), .bool true] (by rfl) (by rfl) (there_of_block Z.out (by simp)) (by kernel_rfl) (by kernel_rfl) ?_
          have Z2 := Lib.hid (heap_setCells_whole (cs := [Value.int .i64 0, .int .i64 0, .bool false]) (#[.int .i64 (add s (sub x t)), .int .i64 (sub x t), .bool true] : Array Value).toList rfl Z.out)
          have hB3 := below_setCells' wa1.heap.size lz (#[.int .i64 (add s (sub x t)), .int .i64 (sub x t), .bool true] : Array Value).toList 0 hB2
          generalize wa2.setCells wa1.heap.size 0 (#[.int .i64 (add s (sub x t)), .int .i64 (sub x t), .bool true] : Array Value).toList = wa3 at Z2 hB3 ⊢
          clear Z hB2
          refine hK.out _ _ ?_ (fun hHeld => ?_)
          · exact ⟨(cell_of_row _ _ _ _ _ _ (P1.out.on hB3)).trans rfl, (cell_of_row _ _ _ _ _ _ (P1.out.on hB3)).trans rfl, (cell_of_row _ _ _ _ _ _ (P1.out.on hB3)).trans rfl, (cell_of_row _ _ _ _ _ _ (P1.out.on hB3)).trans rfl, (cell_of_row _ _ _ _ _ _ (P1.out.on hB3)).trans rfl, (cell_of_row _ _ _ _ _ _ (P1.out.on hB3)).trans rfl, (cell_of_row _ _ _ _ _ _ (P1.out.on hB3)).trans rfl, (cell_of_row _ _ _ _ _ _ (P1.out.on hB3)).trans rfl, (Below.cell (p := ⟨b, o + k, none⟩) hB3 HBL.out).trans HC.out, StAt.c A1.out hB3⟩
          clear hK K
          try simp only [Act.put, List.getElem_toArray, List.getElem_cons_succ, List.getElem_cons_zero, List.setIfInBounds_toArray, List.set_cons_zero, List.set_cons_succ]
          refine wpAnyH_take (i := 12) (v := ?_) rfl (by kernel_rfl) (by kernel_rfl) (by kernel_rfl) (fun _ _ _ h => h) (Or.inl ⟨by rfl, ?_⟩) (by assumption) ?_
          rotate_left
          · intro w hSw
            (try dsimp only at hSw)
            go_simp
            all_goals with_reducible rfl
          try simp only [Act.put, List.getElem_toArray, List.getElem_cons_succ, List.getElem_cons_zero, List.setIfInBounds_toArray, List.set_cons_zero, List.set_cons_succ]
          refine wpAnyH_done (by kernel_rfl) ?_ _
          go_wp2_with fail
          go_meet
          exact ⟨_, rfl, rfl, lz, Z2.out, hB3⟩
        · rw [if_pos (by rfl)]
          go_simp
          have hB1 := hB0.alloc hB0.size (.cells #[.int .i64 0, .int .i64 0, .bool false] 23)
          have Z := Lib.hid (heap_alloc_new wa0 (.cells #[.int .i64 0, .int .i64 0, .bool false] 23))
          have lz : wr.heap.size ≤ wa0.heap.size := hB0.size
          generalize wa0.alloc (.cells #[.int .i64 0, .int .i64 0, .bool false] 23) = wa1 at hB1 Z ⊢
          clear hB0
          refine hK.out _ _ ?_ (fun hHeld => ?_)
          · exact ⟨(cell_of_row _ _ _ _ _ _ (P1.out.on hB1)).trans rfl, (cell_of_row _ _ _ _ _ _ (P1.out.on hB1)).trans rfl, (cell_of_row _ _ _ _ _ _ (P1.out.on hB1)).trans rfl, (cell_of_row _ _ _ _ _ _ (P1.out.on hB1)).trans rfl, (cell_of_row _ _ _ _ _ _ (P1.out.on hB1)).trans rfl, (cell_of_row _ _ _ _ _ _ (P1.out.on hB1)).trans rfl, (cell_of_row _ _ _ _ _ _ (P1.out.on hB1)).trans rfl, (cell_of_row _ _ _ _ _ _ (P1.out.on hB1)).trans rfl, (Below.cell (p := ⟨b, o + k, none⟩) hB1 HBL.out).trans HC.out, StAt.c A1.out hB1⟩
          clear hK K
          try simp only [Act.put, List.getElem_toArray, List.getElem_cons_succ, List.getElem_cons_zero, List.setIfInBounds_toArray, List.set_cons_zero, List.set_cons_succ]
          refine wpAnyH_ready (rs := [6]) (by kernel_rfl) (by simp) ?_
          refine AllReadyH.cons rfl (fun K hK => ?_) AllReadyH.nil
          rw [if_pos (by rfl)]
          go_simp
          go_at_call 10
          refine (next_any _ _ _ _ t kp ki kd s p h x _).mono ?_
          rintro r wa2 ⟨rfl, b⟩
          have hB2 := hB1.trans (b.mono hB1.size)
          have Z := Lib.hid ((b.block _ (lt_of_heap Z.out)).trans Z.out)
          clear b hB1
          refine hK.out _ _ ?_ (fun hHeld => ?_)
          · exact ⟨(cell_of_row _ _ _ _ _ _ (P1.out.on hB2)).trans rfl, (cell_of_row _ _ _ _ _ _ (P1.out.on hB2)).trans rfl, (cell_of_row _ _ _ _ _ _ (P1.out.on hB2)).trans rfl, (cell_of_row _ _ _ _ _ _ (P1.out.on hB2)).trans rfl, (cell_of_row _ _ _ _ _ _ (P1.out.on hB2)).trans rfl, (cell_of_row _ _ _ _ _ _ (P1.out.on hB2)).trans rfl, (cell_of_row _ _ _ _ _ _ (P1.out.on hB2)).trans rfl, (cell_of_row _ _ _ _ _ _ (P1.out.on hB2)).trans rfl, (Below.cell (p := ⟨b, o + k, none⟩) hB2 HBL.out).trans HC.out, StAt.c A1.out hB2⟩
          clear hK K
          try simp only [Act.put, List.getElem_toArray, List.getElem_cons_succ, List.getElem_cons_zero, List.setIfInBounds_toArray, List.set_cons_zero, List.set_cons_succ]
          refine wpAnyH_take (i := 7) (v := ?_) rfl (by kernel_rfl) (by kernel_rfl) (by kernel_rfl) (fun _ _ _ h => h) (Or.inl ⟨by rfl, ?_⟩) (by assumption) ?_
          rotate_left
          · intro w hSw
            (try dsimp only at hSw)
            go_simp
            all_goals with_reducible rfl
          try simp only [Act.put, List.getElem_toArray, List.getElem_cons_succ, List.getElem_cons_zero, List.setIfInBounds_toArray, List.set_cons_zero, List.set_cons_succ]
          refine wpAnyH_take (i := 8) (v := ?_) rfl (by kernel_rfl) (by kernel_rfl) (by kernel_rfl) (fun _ _ _ h => h) (Or.inl ⟨by rfl, ?_⟩) (by assumption) ?_
          rotate_left
          · intro w hSw
            (try dsimp only at hSw)
            go_simp
            all_goals with_reducible rfl
          try simp only [Act.put, List.getElem_toArray, List.getElem_cons_succ, List.getElem_cons_zero, List.setIfInBounds_toArray, List.set_cons_zero, List.set_cons_succ]
          refine wpAnyH_take (i := 9) (v := ?_) rfl (by kernel_rfl) (by kernel_rfl) (by kernel_rfl) (fun _ _ _ h => h) (Or.inl ⟨by rfl, ?_⟩) (by assumption) ?_
          rotate_left
          · intro w hSw
            (try dsimp only at hSw)
            go_simp
            all_goals with_reducible rfl
          try simp only [Act.put, List.getElem_toArray, List.getElem_cons_succ, List.getElem_cons_zero, List.setIfInBounds_toArray, List.set_cons_zero, List.set_cons_succ]
          refine wpAnyH_ready (rs := [11]) (by kernel_rfl) (by simp) ?_
          refine AllReadyH.cons rfl (fun K hK => ?_) AllReadyH.nil
          rw [if_pos (by rfl)]
          refine wp_store_mid 23 (.tmp 9) (.tmp 30) (by rfl) wa0.heap.size 0 #[.int .i64 (add s (sub x t)), .int .i64 (sub x t), .bool true] (by rfl) (by rfl) (there_of_block Z.out (by simp)) (by kernel_rfl) (by kernel_rfl) ?_
          have Z2 := Lib.hid (heap_setCells_whole (cs := [Value.int .i64 0, .int .i64 0, .bool false]) (#[.int .i64 (add s (sub x t)), .int .i64 (sub x t), .bool true] : Array Value).toList rfl Z.out)
          have hB3 := below_setCells' wa0.heap.size lz (#[.int .i64 (add s (sub x t)), .int .i64 (sub x t), .bool true] : Array Value).toList 0 hB2
          generalize wa2.setCells wa0.heap.size 0 (#[.int .i64 (add s (sub x t)), .int .i64 (sub x t), .bool true] : Array Value).toList = wa3 at Z2 hB3 ⊢
          clear Z hB2
          refine hK.out _ _ ?_ (fun hHeld => ?_)
          · exact ⟨(cell_of_row _ _ _ _ _ _ (P1.out.on hB3)).trans rfl, (cell_of_row _ _ _ _ _ _ (P1.out.on hB3)).trans rfl, (cell_of_row _ _ _ _ _ _ (P1.out.on hB3)).trans rfl, (cell_of_row _ _ _ _ _ _ (P1.out.on hB3)).trans rfl, (cell_of_row _ _ _ _ _ _ (P1.out.on hB3)).trans rfl, (cell_of_row _ _ _ _ _ _ (P1.out.on hB3)).trans rfl, (cell_of_row _ _ _ _ _ _ (P1.out.on hB3)).trans rfl, (cell_of_row _ _ _ _ _ _ (P1.out.on hB3)).trans rfl, (Below.cell (p := ⟨b, o + k, none⟩) hB3 HBL.out).trans HC.out, StAt.c A1.out hB3⟩
          clear hK K
          try simp only [Act.put, List.getElem_toArray, List.getElem_cons_succ, List.getElem_cons_zero, List.setIfInBounds_toArray, List.set_cons_zero, List.set_cons_succ]
          refine wpAnyH_take (i := 12) (v := ?_) rfl (by kernel_rfl) (by kernel_rfl) (by kernel_rfl) (fun _ _ _ h => h) (Or.inl ⟨by rfl, ?_⟩) (by assumption) ?_
          rotate_left
          · intro w hSw
            (try dsimp only at hSw)
            go_simp
            all_goals with_reducible rfl
          try simp only [Act.put, List.getElem_toArray, List.getElem_cons_succ, List.getElem_cons_zero, List.setIfInBounds_toArray, List.set_cons_zero, List.set_cons_succ]
          refine wpAnyH_done (by kernel_rfl) ?_ _
          go_wp2_with fail
          go_meet
          exact ⟨_, rfl, rfl, lz, Z2.out, hB3⟩
      case rest =>
      obtain ⟨g3, rfl, rfl, l3, V, b3⟩ := hcut
      generalize wc = w3 at *
      have V3 := Lib.hid V
      have A1 := Lib.hid (A1.out.on b3)
      have P1 := Lib.hid (P1.out.on b3)
      clear V
      have B3 := Lib.hid (BW.out.trans (b3.mono BW.out.size))
      clear b3
      have hs1 := (add_le s (sub x t)).1
      have hs2 := (add_le s (sub x t)).2
      have he1 := (sub_le x t).1
      have he2 := (sub_le x t).2
      have hn1 := (wnt_le kp ki kd (sub x t) (add s (sub x t)) (chg h (sub x t) p)).1
      have hn2 := (wnt_le kp ki kd (sub x t) (add s (sub x t)) (chg h (sub x t) p)).2
      generalize wnt kp ki kd (sub x t) (add s (sub x t)) (chg h (sub x t) p) = m at *
      generalize add s (sub x t) = s2 at *
      generalize sub x t = e2 at *
      obtain ⟨c30, c31, c32, _⟩ := StAt.c V3.out (Below.refl _ _)
      go_wp2_with (first | (refine wpList_store_mid (by rfl) 23 (.tmp 4) (.tmp 63) (by rfl) (w.heap.size + 1) 0 #[.int .i64 s2, .int .i64 e2, .bool true] (by rfl) (by rfl) (StAt.there A1.out) (by kernel_rfl) (by kernel_rfl) ?_))
      go_roundw
      case rel => exact ⟨k + 1, s2, e2, true, HK.out, by go_num, StAt.set A1.out s2 e2 true, P1.out.far (Nat.ne_of_lt (Nat.lt_succ_self _)) _, below_setCells' (w.heap.size + 1) (by omega) _ 0 B3.out⟩
      case measure => have := HK.out; simp [intOf]; omega
    · have hlt' : ¬ (k : Int) < (n : Int) := by omega
      go_wp2
      go_ret
      exact ⟨rfl, BW.out⟩
end Go.Proofs.Ytdglobolgdhmoaa
