/- PidRests: the walk. -/
import Derived.Test.YtdglobolgdhmoaaPdF
namespace Go.Proofs.Ytdglobolgdhmoaa
set_option linter.unusedSimpArgs false
set_option linter.unusedVariables false
open Go.RowKit
open Fx Pd
attribute [local go_sem] Oper.semAt_some

set_option maxRecDepth 100000 in
set_option maxHeartbeats 3200000 in
theorem pidRests_walk (t kp ki kd u m : Int) (hm : 0 ≤ m ∧ m ≤ 255) (w : World) :
    Calls Try.prog 7 #[.int .i64 t, .int .i64 kp, .int .i64 ki, .int .i64 kd, .int .i64 u, .int .u8 m] w fun r w' => r = .returned (.bool true) ∧ Below w.heap.size w w' := by
  go_enter Try.func7, Try.ntmps7
  go_wp2_with fail
  refine (head_any _).mono ?_
  rintro r w1 ⟨rfl, b1⟩
  have B1 := Lib.hid b1
  clear b1
  go_wp2_with fail
  refine (qd (rsat_any t _)).mono ?_
  rintro r w9 ⟨rfl, rfl⟩
  generalize sat t = T at *
  have hm1 : IntKind.i64.wrap m = m := by rw [IntKind.wrap_i64]; omega
  have hm2 : IntKind.i64.wrap (m % 40) = m % 40 := by rw [IntKind.wrap_i64]; omega
  go_wp2_with fail
  go_loopw [16] (fun i wx => ∃ (k : Nat) (h : Bool), (k : Int) ≤ 40 ∧ i = .int .i64 (k : Int) ∧ StAt wx w1.heap.size 0 0 h ∧ Below w1.heap.size w1 wx) (fun i _ => 41 - (intOf i).toNat)
  case atStart => exact ⟨0, false, by decide, rfl, heap_alloc_new _ _, (Below.refl _ _).alloc (Nat.le_refl _) _⟩
  case round =>
    obtain ⟨k, h, hk, rfl, hA, hB⟩ := hrel
    have A1 := Lib.hid hA
    have B2 := Lib.hid hB
    have BW := Lib.hid (B1.out.trans (hB.mono B1.out.size))
    clear hA hB
    by_cases hlt : (k : Int) < m % 40
    · have hk0 : (0 : Int) ≤ (k : Int) := by omega
      have hk4 : (k : Int) < 40 := by omega
      have HK := Lib.hid hk4
      clear hk4
      have Q1 := Lib.hid (lt_of_heap A1.out)
      go_wp2_with fail
      go_cut [17, 18] from 33 to 43 (fun vt vu wx => NewS wr (0) (0) (0) vt vu wx)
      case first =>
        refine wp_region_held_drew (S := fun wy => wy.cell? ⟨w1.heap.size, 0, none⟩ = some (.int .i64 0) ∧ wy.cell? ⟨w1.heap.size, 1, none⟩ = some (.int .i64 0) ∧ wy.cell? ⟨w1.heap.size, 2, none⟩ = some (.bool h) ∧ Below wr.heap.size wr wy) (by kernel_rfl) (StAt.c A1.out (Below.drew (Below.refl _ _))) (fun hHeld => ?_)
        refine wpAnyH_take (i := 0) (v := ?_) rfl (by kernel_rfl) (by kernel_rfl) (by kernel_rfl) (fun _ _ _ h => h) (Or.inl ⟨by rfl, ?_⟩) (by assumption) ?_
        rotate_left
        · intro w hSw
          (try dsimp only at hSw)
          go_simp
          all_goals with_reducible rfl
        try simp only [Act.put, List.getElem_toArray, List.getElem_cons_succ, List.getElem_cons_zero, List.setIfInBounds_toArray, List.set_cons_zero, List.set_cons_succ]
        refine wpAnyH_take (i := 1) (v := ?_) rfl (by kernel_rfl) (by kernel_rfl) (by kernel_rfl) (fun _ _ _ h => h) (Or.inl ⟨by rfl, ?_⟩) (by assumption) ?_
        rotate_left
        · intro w hSw
          (try dsimp only at hSw)
          go_simp
          all_goals with_reducible rfl
        try simp only [Act.put, List.getElem_toArray, List.getElem_cons_succ, List.getElem_cons_zero, List.setIfInBounds_toArray, List.set_cons_zero, List.set_cons_succ]
        refine wpAnyH_take (i := 2) (v := ?_) rfl (by kernel_rfl) (by kernel_rfl) (by kernel_rfl) (fun _ _ _ h => h) (Or.inl ⟨by rfl, ?_⟩) (by assumption) ?_
        rotate_left
        · intro w hSw
          (try dsimp only at hSw)
          go_simp
          all_goals with_reducible rfl
        try simp only [Act.put, List.getElem_toArray, List.getElem_cons_succ, List.getElem_cons_zero, List.setIfInBounds_toArray, List.set_cons_zero, List.set_cons_succ]
        refine wpAnyH_take (i := 3) (v := ?_) rfl (by kernel_rfl) (by kernel_rfl) (by kernel_rfl) (fun _ _ _ h => h) (Or.inl ⟨by rfl, ?_⟩) (by assumption) ?_
        rotate_left
        · intro w hSw
          (try dsimp only at hSw)
          go_simp
          all_goals with_reducible rfl
        try simp only [Act.put, List.getElem_toArray, List.getElem_cons_succ, List.getElem_cons_zero, List.setIfInBounds_toArray, List.set_cons_zero, List.set_cons_succ]
        refine wpAnyH_take (i := 5) (v := ?_) rfl (by kernel_rfl) (by kernel_rfl) (by kernel_rfl) (fun _ _ _ h => h) (Or.inl ⟨by rfl, ?_⟩) (by assumption) ?_
        rotate_left
        · intro w hSw
          (try dsimp only at hSw)
          go_simp
          all_goals with_reducible rfl
        try simp only [Act.put, List.getElem_toArray, List.getElem_cons_succ, List.getElem_cons_zero, List.setIfInBounds_toArray, List.set_cons_zero, List.set_cons_succ]
        refine wpAnyH_take (i := 6) (v := ?_) rfl (by kernel_rfl) (by kernel_rfl) (by kernel_rfl) (fun _ _ _ h => h) (Or.inl ⟨by rfl, ?_⟩) (by assumption) ?_
        rotate_left
        · intro w hSw
          (try dsimp only at hSw)
          go_simp
          all_goals with_reducible rfl
        try simp only [Act.put, List.getElem_toArray, List.getElem_cons_succ, List.getElem_cons_zero, List.setIfInBounds_toArray, List.set_cons_zero, List.set_cons_succ]
        have hB0 := hHeld.2.2.2
        clear hHeld
        generalize wr.drew = wa0 at hB0 ⊢
        refine wpAnyH_ready (rs := [4, 11]) (by kernel_rfl) (by simp) ?_
        refine AllReadyH.cons rfl (fun K hK => ?_) (AllReadyH.cons rfl (fun K hK => ?_) AllReadyH.nil)
        · rw [if_pos (by rfl)]
          go_simp
          go_at_call 11
          refine (of12_any T kp ki kd _).mono ?_
          rintro r wa1 ⟨rfl, b⟩
          have hB1 := hB0.trans (b.mono hB0.size)
          clear b hB0
          refine hK.out _ _ ?_ (fun hHeld => ?_)
          · exact StAt.c A1.out hB1
          clear hK K
          try simp only [Act.put, List.getElem_toArray, List.getElem_cons_succ, List.getElem_cons_zero, List.setIfInBounds_toArray, List.set_cons_zero, List.set_cons_succ]
          refine wpAnyH_ready (rs := [7, 11]) (by kernel_rfl) (by simp) ?_
          refine AllReadyH.cons rfl (fun K hK => ?_) (AllReadyH.cons rfl (fun K hK => ?_) AllReadyH.nil)
          · rw [if_pos (by rfl)]
            go_simp
            go_at_call 10
            refine (next_to T kp ki kd 0 0 h T 0 0 0 _ (sub_self_ T) (by decide) (by rw [chg_zero]; exact wnt_rest kp ki kd)).mono ?_
            rintro r wa2 ⟨rfl, b⟩
            have hB2 := hB1.trans (b.mono hB1.size)
            clear b hB1
            refine hK.out _ _ ?_ (fun hHeld => ?_)
            · exact StAt.c A1.out hB2
            clear hK K
            try simp only [Act.put, List.getElem_toArray, List.getElem_cons_succ, List.getElem_cons_zero, List.setIfInBounds_toArray, List.set_cons_zero, List.set_cons_succ]
            refine wpAnyH_take (i := 8) (v := ?_) rfl (by kernel_rfl) (by kernel_rfl) (by kernel_rfl) (fun _ _ _ h => h) (Or.inl ⟨by rfl, ?_⟩) (by assumption) ?_
            rotate_left
            · intro w hSw
              (try dsimp only at hSw)
              go_simp
              all_goals with_reducible rfl
            try simp only [Act.put, List.getElem_toArray, List.getElem_cons_succ, List.getElem_cons_zero, List.setIfInBounds_toArray, List.set_cons_zero, List.set_cons_succ]
            refine wpAnyH_take (i := 9) (v := ?_) rfl (by kernel_rfl) (by kernel_rfl) (by kernel_rfl) (fun _ _ _ h => h) (Or.inl ⟨by rfl, ?_⟩) (by assumption) ?_
            rotate_left
            · intro w hSw
              (try dsimp only at hSw)
              go_simp
              all_goals with_reducible rfl
            try simp only [Act.put, List.getElem_toArray, List.getElem_cons_succ, List.getElem_cons_zero, List.setIfInBounds_toArray, List.set_cons_zero, List.set_cons_succ]
            refine wpAnyH_take (i := 10) (v := ?_) rfl (by kernel_rfl) (by kernel_rfl) (by kernel_rfl) (fun _ _ _ h => h) (Or.inl ⟨by rfl, ?_⟩) (by assumption) ?_
            rotate_left
            · intro w hSw
              (try dsimp only at hSw)
              go_simp
              all_goals with_reducible rfl
            try simp only [Act.put, List.getElem_toArray, List.getElem_cons_succ, List.getElem_cons_zero, List.setIfInBounds_toArray, List.set_cons_zero, List.set_cons_succ]
            refine wpAnyH_ready (rs := [11]) (by kernel_rfl) (by simp) ?_
            refine AllReadyH.cons rfl (fun K hK => ?_) AllReadyH.nil
            rw [if_pos (by rfl)]
            go_simp
            have hB3 := hB2.alloc hB2.size (.cells #[.int .i64 0, .int .i64 0, .bool false] 23)
            have Z := Lib.hid (heap_alloc_new wa2 (.cells #[.int .i64 0, .int .i64 0, .bool false] 23))
            have lz : wr.heap.size ≤ wa2.heap.size := hB2.size
            generalize wa2.alloc (.cells #[.int .i64 0, .int .i64 0, .bool false] 23) = wa3 at hB3 Z ⊢
            clear hB2
            refine hK.out _ _ ?_ (fun hHeld => ?_)
            · exact StAt.c A1.out hB3
            clear hK K
            try simp only [Act.put, List.getElem_toArray, List.getElem_cons_succ, List.getElem_cons_zero, List.setIfInBounds_toArray, List.set_cons_zero, List.set_cons_succ]
            refine wpAnyH_ready (rs := [12]) (by kernel_rfl) (by simp) ?_
            refine AllReadyH.cons rfl (fun K hK => ?_) AllReadyH.nil
            rw [if_pos (by rfl)]
            refine wp_store_mid 23 (.tmp 17) (.tmp 42) (by rfl) wa2.heap.size 0 #[.int .i64 (0), .int .i64 (0), .bool true] (by rfl) (by rfl) (there_of_block Z.out (by simp)) (by kernel_rfl) (by kernel_rfl) ?_
            have Z2 := Lib.hid (heap_setCells_whole (cs := [Value.int .i64 0, .int .i64 0, .bool false]) (#[.int .i64 (0), .int .i64 (0), .bool true] : Array Value).toList rfl Z.out)
            have hB4 := below_setCells' wa2.heap.size lz (#[.int .i64 (0), .int .i64 (0), .bool true] : Array Value).toList 0 hB3
            generalize wa3.setCells wa2.heap.size 0 (#[.int .i64 (0), .int .i64 (0), .bool true] : Array Value).toList = wa4 at Z2 hB4 ⊢
            clear Z hB3
            refine hK.out _ _ ?_ (fun hHeld => ?_)
            · exact StAt.c A1.out hB4
            clear hK K
            try simp only [Act.put, List.getElem_toArray, List.getElem_cons_succ, List.getElem_cons_zero, List.setIfInBounds_toArray, List.set_cons_zero, List.set_cons_succ]
            refine wpAnyH_take (i := 13) (v := ?_) rfl (by kernel_rfl) (by kernel_rfl) (by kernel_rfl) (fun _ _ _ h => h) (Or.inl ⟨by rfl, ?_⟩) (by assumption) ?_
            rotate_left
            · intro w hSw
              (try dsimp only at hSw)
              go_simp
              all_goals with_reducible rfl
            try simp only [Act.put, List.getElem_toArray, List.getElem_cons_succ, List.getElem_cons_zero, List.setIfInBounds_toArray, List.set_cons_zero, List.set_cons_succ]
            refine wpAnyH_done (by kernel_rfl) ?_ _
            go_wp2_with fail
            go_meet
            exact ⟨_, rfl, rfl, lz, Z2.out, hB4⟩
          · rw [if_pos (by rfl)]
            go_simp
            have hB2 := hB1.alloc hB1.size (.cells #[.int .i64 0, .int .i64 0, .bool false] 23)
            have Z := Lib.hid (heap_alloc_new wa1 (.cells #[.int .i64 0, .int .i64 0, .bool false] 23))
            have lz : wr.heap.size ≤ wa1.heap.size := hB1.size
            generalize wa1.alloc (.cells #[.int .i64 0, .int .i64 0, .bool false] 23) = wa2 at hB2 Z ⊢
            clear hB1
            refine hK.out _ _ ?_ (fun hHeld => ?_)
            · exact StAt.c A1.out hB2
            clear hK K
            try simp only [Act.put, List.getElem_toArray, List.getElem_cons_succ, List.getElem_cons_zero, List.setIfInBounds_toArray, List.set_cons_zero, List.set_cons_succ]
            refine wpAnyH_ready (rs := [7]) (by kernel_rfl) (by simp) ?_
            refine AllReadyH.cons rfl (fun K hK => ?_) AllReadyH.nil
            rw [if_pos (by rfl)]
            go_simp
            go_at_call 10
            refine (next_to T kp ki kd 0 0 h T 0 0 0 _ (sub_self_ T) (by decide) (by rw [chg_zero]; exact wnt_rest kp ki kd)).mono ?_
            rintro r wa3 ⟨rfl, b⟩
            have hB3 := hB2.trans (b.mono hB2.size)
            have Z := Lib.hid ((b.block _ (lt_of_heap Z.out)).trans Z.out)
            clear b hB2
            refine hK.out _ _ ?_ (fun hHeld => ?_)
            · exact StAt.c A1.out hB3
            clear hK K
            try simp only [Act.put, List.getElem_toArray, List.getElem_cons_succ, List.getElem_cons_zero, List.setIfInBounds_toArray, List.set_cons_zero, List.set_cons_succ]
            refine wpAnyH_take (i := 8) (v := ?_) rfl (by kernel_rfl) (by kernel_rfl) (by kernel_rfl) (fun _ _ _ h => h) (Or.inl ⟨by rfl, ?_⟩) (by assumption) ?_
            rotate_left
            · intro w hSw
              (try dsimp only at hSw)
              go_simp
              all_goals with_reducible rfl
            try simp only [Act.put, List.getElem_toArray, List.getElem_cons_succ, List.getElem_cons_zero, List.setIfInBounds_toArray, List.set_cons_zero, List.set_cons_succ]
            refine wpAnyH_take (i := 9) (v := ?_) rfl (by kernel_rfl) (by kernel_rfl) (by kernel_rfl) (fun _ _ _ h => h) (Or.inl ⟨by rfl, ?_⟩) (by assumption) ?_
            rotate_left
            · intro w hSw
              (try dsimp only at hSw)
              go_simp
              all_goals with_reducible rfl
            try simp only [Act.put, List.getElem_toArray, List.getElem_cons_succ, List.getElem_cons_zero, List.setIfInBounds_toArray, List.set_cons_zero, List.set_cons_succ]
            refine wpAnyH_take (i := 10) (v := ?_) rfl (by kernel_rfl) (by kernel_rfl) (by kernel_rfl) (fun _ _ _ h => h) (Or.inl ⟨by rfl, ?_⟩) (by assumption) ?_
            rotate_left
            · intro w hSw
              (try dsimp only at hSw)
              go_simp
              all_goals with_reducible rfl
            try simp only [Act.put, List.getElem_toArray, List.getElem_cons_succ, List.getElem_cons_zero, List.setIfInBounds_toArray, List.set_cons_zero, List.set_cons_succ]
            refine wpAnyH_ready (rs := [12]) (by kernel_rfl) (by simp) ?_
            refine AllReadyH.cons rfl (fun K hK => ?_) AllReadyH.nil
            rw [if_pos (by rfl)]
            refine wp_store_mid 23 (.tmp 17) (.tmp 42) (by rfl) wa1.heap.size 0 #[.int .i64 (0), .int .i64 (0), .bool true] (by rfl) (by rfl) (there_of_block Z.out (by simp)) (by kernel_rfl) (by kernel_rfl) ?_
            have Z2 := Lib.hid (heap_setCells_whole (cs := [Value.int .i64 0, .int .i64 0, .bool false]) (#[.int .i64 (0), .int .i64 (0), .bool true] : Array Value).toList rfl Z.out)
            have hB4 := below_setCells' wa1.heap.size lz (#[.int .i64 (0), .int .i64 (0), .bool true] : Array Value).toList 0 hB3
            generalize wa3.setCells wa1.heap.size 0 (#[.int .i64 (0), .int .i64 (0), .bool true] : Array Value).toList = wa4 at Z2 hB4 ⊢
            clear Z hB3
            refine hK.out _ _ ?_ (fun hHeld => ?_)
            · exact StAt.c A1.out hB4
            clear hK K
            try simp only [Act.put, List.getElem_toArray, List.getElem_cons_succ, List.getElem_cons_zero, List.setIfInBounds_toArray, List.set_cons_zero, List.set_cons_succ]
            refine wpAnyH_take (i := 13) (v := ?_) rfl (by kernel_rfl) (by kernel_rfl) (by kernel_rfl) (fun _ _ _ h => h) (Or.inl ⟨by rfl, ?_⟩) (by assumption) ?_
            rotate_left
            · intro w hSw
              (try dsimp only at hSw)
              go_simp
              all_goals with_reducible rfl
            try simp only [Act.put, List.getElem_toArray, List.getElem_cons_succ, List.getElem_cons_zero, List.setIfInBounds_toArray, List.set_cons_zero, List.set_cons_succ]
            refine wpAnyH_done (by kernel_rfl) ?_ _
            go_wp2_with fail
            go_meet
            exact ⟨_, rfl, rfl, lz, Z2.out, hB4⟩
        · rw [if_pos (by rfl)]
          go_simp
          have hB1 := hB0.alloc hB0.size (.cells #[.int .i64 0, .int .i64 0, .bool false] 23)
          have Z := Lib.hid (heap_alloc_new wa0 (.cells #[.int .i64 0, .int .i64 0, .bool false] 23))
          have lz : wr.heap.size ≤ wa0.heap.size := hB0.size
          generalize wa0.alloc (.cells #[.int .i64 0, .int .i64 0, .bool false] 23) = wa1 at hB1 Z ⊢
          clear hB0
          refine hK.out _ _ ?_ (fun hHeld => ?_)
          · exact StAt.c A1.out hB1
          clear hK K
          try simp only [Act.put, List.getElem_toArray, List.getElem_cons_succ, List.getElem_cons_zero, List.setIfInBounds_toArray, List.set_cons_zero, List.set_cons_succ]
          refine wpAnyH_ready (rs := [4]) (by kernel_rfl) (by simp) ?_
          refine AllReadyH.cons rfl (fun K hK => ?_) AllReadyH.nil
          rw [if_pos (by rfl)]
          go_simp
          go_at_call 11
          refine (of12_any T kp ki kd _).mono ?_
          rintro r wa2 ⟨rfl, b⟩
          have hB2 := hB1.trans (b.mono hB1.size)
          have Z := Lib.hid ((b.block _ (lt_of_heap Z.out)).trans Z.out)
          clear b hB1
          refine hK.out _ _ ?_ (fun hHeld => ?_)
          · exact StAt.c A1.out hB2
          clear hK K
          try simp only [Act.put, List.getElem_toArray, List.getElem_cons_succ, List.getElem_cons_zero, List.setIfInBounds_toArray, List.set_cons_zero, List.set_cons_succ]
          refine wpAnyH_ready (rs := [7]) (by kernel_rfl) (by simp) ?_
          refine AllReadyH.cons rfl (fun K hK => ?_) AllReadyH.nil
          rw [if_pos (by rfl)]
          go_simp
          go_at_call 10
          refine (next_to T kp ki kd 0 0 h T 0 0 0 _ (sub_self_ T) (by decide) (by rw [chg_zero]; exact wnt_rest kp ki kd)).mono ?_
          rintro r wa3 ⟨rfl, b⟩
          have hB3 := hB2.trans (b.mono hB2.size)
          have Z := Lib.hid ((b.block _ (lt_of_heap Z.out)).trans Z.out)
          clear b hB2
          refine hK.out _ _ ?_ (fun hHeld => ?_)
          · exact StAt.c A1.out hB3
          clear hK K
          try simp only [Act.put, List.getElem_toArray, List.getElem_cons_succ, List.getElem_cons_zero, List.setIfInBounds_toArray, List.set_cons_zero, List.set_cons_succ]
          refine wpAnyH_take (i := 8) (v := ?_) rfl (by kernel_rfl) (by kernel_rfl) (by kernel_rfl) (fun _ _ _ h => h) (Or.inl ⟨by rfl, ?_⟩) (by assumption) ?_
          rotate_left
          · intro w hSw
            (try dsimp only at hSw)
            go_simp
            all_goals with_reducible rfl
          try simp only [Act.put, List.getElem_toArray, List.getElem_cons_succ, List.getElem_cons_zero, List.setIfInBounds_toArray, List.set_cons_zero, List.set_cons_succ]
          refine wpAnyH_take (i := 9) (v := ?_) rfl (by kernel_rfl) (by kernel_rfl) (by kernel_rfl) (fun _ _ _ h => h) (Or.inl ⟨by rfl, ?_⟩) (by assumption) ?_
          rotate_left
          · intro w hSw
            (try dsimp only at hSw)
            go_simp
            all_goals with_reducible rfl
          try simp only [Act.put, List.getElem_toArray, List.getElem_cons_succ, List.getElem_cons_zero, List.setIfInBounds_toArray, List.set_cons_zero, List.set_cons_succ]
          refine wpAnyH_take (i := 10) (v := ?_) rfl (by kernel_rfl) (by kernel_rfl) (by kernel_rfl) (fun _ _ _ h => h) (Or.inl ⟨by rfl, ?_⟩) (by assumption) ?_
          rotate_left
          · intro w hSw
            (try dsimp only at hSw)
            go_simp
            all_goals with_reducible rfl
          try simp only [Act.put, List.getElem_toArray, List.getElem_cons_succ, List.getElem_cons_zero, List.setIfInBounds_toArray, List.set_cons_zero, List.set_cons_succ]
          refine wpAnyH_ready (rs := [12]) (by kernel_rfl) (by simp) ?_
          refine AllReadyH.cons rfl (fun K hK => ?_) AllReadyH.nil
          rw [if_pos (by rfl)]
          refine wp_store_mid 23 (.tmp 17) (.tmp 42) (by rfl) wa0.heap.size 0 #[.int .i64 (0), .int .i64 (0), .bool true] (by rfl) (by rfl) (there_of_block Z.out (by simp)) (by kernel_rfl) (by kernel_rfl) ?_
          have Z2 := Lib.hid (heap_setCells_whole (cs := [Value.int .i64 0, .int .i64 0, .bool false]) (#[.int .i64 (0), .int .i64 (0), .bool true] : Array Value).toList rfl Z.out)
          have hB4 := below_setCells' wa0.heap.size lz (#[.int .i64 (0), .int .i64 (0), .bool true] : Array Value).toList 0 hB3
          generalize wa3.setCells wa0.heap.size 0 (#[.int .i64 (0), .int .i64 (0), .bool true] : Array Value).toList = wa4 at Z2 hB4 ⊢
          clear Z hB3
          refine hK.out _ _ ?_ (fun hHeld => ?_)
          · exact StAt.c A1.out hB4
          clear hK K
          try simp only [Act.put, List.getElem_toArray, List.getElem_cons_succ, List.getElem_cons_zero, List.setIfInBounds_toArray, List.set_cons_zero, List.set_cons_succ]
          refine wpAnyH_take (i := 13) (v := ?_) rfl (by kernel_rfl) (by kernel_rfl) (by kernel_rfl) (fun _ _ _ h => h) (Or.inl ⟨by rfl, ?_⟩) (by assumption) ?_
          rotate_left
          · intro w hSw
            (try dsimp only at hSw)
            go_simp
            all_goals with_reducible rfl
          try simp only [Act.put, List.getElem_toArray, List.getElem_cons_succ, List.getElem_cons_zero, List.setIfInBounds_toArray, List.set_cons_zero, List.set_cons_succ]
          refine wpAnyH_done (by kernel_rfl) ?_ _
          go_wp2_with fail
          go_meet
          exact ⟨_, rfl, rfl, lz, Z2.out, hB4⟩
      case rest =>
      obtain ⟨g3, rfl, rfl, l3, V, b3⟩ := hcut
      generalize wc = w3 at *
      have V3 := Lib.hid V
      have A1 := Lib.hid (A1.out.on b3)
      clear V
      have B3 := Lib.hid (B2.out.trans (b3.mono B2.out.size))
      clear b3
      obtain ⟨c30, c31, c32, _⟩ := StAt.c V3.out (Below.refl _ _)
      go_wp2_with (first | (refine wpList_store_mid (by rfl) 23 (.tmp 15) (.tmp 51) (by rfl) w1.heap.size 0 #[.int .i64 0, .int .i64 0, .bool true] (by rfl) (by rfl) (StAt.there A1.out) (by kernel_rfl) (by kernel_rfl) ?_))
      go_roundw
      case rel => exact ⟨k + 1, true, by have := HK.out; omega, by go_num, StAt.set A1.out 0 0 true, below_setCells' w1.heap.size (Nat.le_refl _) _ 0 B3.out⟩
      case measure => have := HK.out; simp [intOf]; omega
    · go_wp2_with fail
      refine (of12_any T 0 0 kd _).mono ?_
      rintro r w2 ⟨rfl, b2⟩
      have B3 := Lib.hid (BW.out.trans (b2.mono BW.out.size))
      clear b2
      go_wp2_with fail
      refine (next_of T 0 0 kd 0 0 false u _).mono ?_
      rintro r w4 ⟨rfl, b4⟩
      have B4 := Lib.hid (B3.out.trans (b4.mono B3.out.size))
      clear b4 B3
      unfold stV
      generalize wnt 0 0 kd (sub u T) (add 0 (sub u T)) (chg false (sub u T) 0) = n0 at *
      obtain ⟨e, he⟩ : ∃ e, e = sub u T := ⟨_, rfl⟩
      rw [← he]
      have HE := Lib.hid he.symm
      clear he
      generalize add 0 e = s2 at *
      go_upto_region 12 with fail
      have A2 : Hid (StAt (w4.alloc (.cells #[.int .i64 s2, .int .i64 e, .bool true] 23)) w4.heap.size s2 e true) := heap_alloc_new _ _
      have B5 := Lib.hid (B4.out.alloc B4.out.size (.cells #[.int .i64 s2, .int .i64 e, .bool true] 23))
      generalize w4.alloc (.cells #[.int .i64 s2, .int .i64 e, .bool true] 23) = w5 at *
      go_cut [21, 22] from 61 to 69 (fun vt vu wx => NewS w5 (add s2 e) (e) (0) vt vu wx)
      case first =>
        refine wp_region_held_drew (S := fun wy => wy.cell? ⟨w4.heap.size, 0, none⟩ = some (.int .i64 s2) ∧ wy.cell? ⟨w4.heap.size, 1, none⟩ = some (.int .i64 e) ∧ wy.cell? ⟨w4.heap.size, 2, none⟩ = some (.bool true) ∧ Below w5.heap.size w5 wy) (by kernel_rfl) (StAt.c A2.out (Below.drew (Below.refl _ _))) (fun hHeld => ?_)
        refine wpAnyH_take (i := 0) (v := ?_) rfl (by kernel_rfl) (by kernel_rfl) (by kernel_rfl) (fun _ _ _ h => h) (Or.inl ⟨by rfl, ?_⟩) (by assumption) ?_
        rotate_left
        · intro w hSw
          (try dsimp only at hSw)
          go_simp
          all_goals with_reducible rfl
        try simp only [Act.put, List.getElem_toArray, List.getElem_cons_succ, List.getElem_cons_zero, List.setIfInBounds_toArray, List.set_cons_zero, List.set_cons_succ]
        refine wpAnyH_take (i := 1) (v := ?_) rfl (by kernel_rfl) (by kernel_rfl) (by kernel_rfl) (fun _ _ _ h => h) (Or.inl ⟨by rfl, ?_⟩) (by assumption) ?_
        rotate_left
        · intro w hSw
          (try dsimp only at hSw)
          go_simp
          all_goals with_reducible rfl
        try simp only [Act.put, List.getElem_toArray, List.getElem_cons_succ, List.getElem_cons_zero, List.setIfInBounds_toArray, List.set_cons_zero, List.set_cons_succ]
        refine wpAnyH_take (i := 3) (v := ?_) rfl (by kernel_rfl) (by kernel_rfl) (by kernel_rfl) (fun _ _ _ h => h) (Or.inl ⟨by rfl, ?_⟩) (by assumption) ?_
        rotate_left
        · intro w hSw
          (try dsimp only at hSw)
          go_simp
          all_goals with_reducible rfl
        try simp only [Act.put, List.getElem_toArray, List.getElem_cons_succ, List.getElem_cons_zero, List.setIfInBounds_toArray, List.set_cons_zero, List.set_cons_succ]
        refine wpAnyH_take (i := 4) (v := ?_) rfl (by kernel_rfl) (by kernel_rfl) (by kernel_rfl) (fun _ _ _ h => h) (Or.inl ⟨by rfl, ?_⟩) (by assumption) ?_
        rotate_left
        · intro w hSw
          (try dsimp only at hSw)
          go_simp
          all_goals with_reducible rfl
        try simp only [Act.put, List.getElem_toArray, List.getElem_cons_succ, List.getElem_cons_zero, List.setIfInBounds_toArray, List.set_cons_zero, List.set_cons_succ]
        have hB0 := hHeld.2.2.2
        clear hHeld
        generalize w5.drew = wa0 at hB0 ⊢
        refine wpAnyH_ready (rs := [2, 9]) (by kernel_rfl) (by simp) ?_
        refine AllReadyH.cons rfl (fun K hK => ?_) (AllReadyH.cons rfl (fun K hK => ?_) AllReadyH.nil)
        · rw [if_pos (by rfl)]
          go_simp
          go_at_call 11
          refine (of12_any T 0 0 kd _).mono ?_
          rintro r wa1 ⟨rfl, b⟩
          have hB1 := hB0.trans (b.mono hB0.size)
          clear b hB0
          refine hK.out _ _ ?_ (fun hHeld => ?_)
          · exact StAt.c A2.out hB1
          clear hK K
          try simp only [Act.put, List.getElem_toArray, List.getElem_cons_succ, List.getElem_cons_zero, List.setIfInBounds_toArray, List.set_cons_zero, List.set_cons_succ]
          refine wpAnyH_ready (rs := [5, 9]) (by kernel_rfl) (by simp) ?_
          refine AllReadyH.cons rfl (fun K hK => ?_) (AllReadyH.cons rfl (fun K hK => ?_) AllReadyH.nil)
          · rw [if_pos (by rfl)]
            go_simp
            go_at_call 10
            refine (next_to T 0 0 kd s2 e true u e (add s2 e) 0 _ HE.out rfl (by rw [show chg true e e = 0 from sub_self_ e]; exact wnt_still kd e _)).mono ?_
            rintro r wa2 ⟨rfl, b⟩
            have hB2 := hB1.trans (b.mono hB1.size)
            clear b hB1
            refine hK.out _ _ ?_ (fun hHeld => ?_)
            · exact StAt.c A2.out hB2
            clear hK K
            try simp only [Act.put, List.getElem_toArray, List.getElem_cons_succ, List.getElem_cons_zero, List.setIfInBounds_toArray, List.set_cons_zero, List.set_cons_succ]
            refine wpAnyH_take (i := 6) (v := ?_) rfl (by kernel_rfl) (by kernel_rfl) (by kernel_rfl) (fun _ _ _ h => h) (Or.inl ⟨by rfl, ?_⟩) (by assumption) ?_
            rotate_left
            · intro w hSw
              (try dsimp only at hSw)
              go_simp
              all_goals with_reducible rfl
            try simp only [Act.put, List.getElem_toArray, List.getElem_cons_succ, List.getElem_cons_zero, List.setIfInBounds_toArray, List.set_cons_zero, List.set_cons_succ]
            refine wpAnyH_take (i := 7) (v := ?_) rfl (by kernel_rfl) (by kernel_rfl) (by kernel_rfl) (fun _ _ _ h => h) (Or.inl ⟨by rfl, ?_⟩) (by assumption) ?_
            rotate_left
            · intro w hSw
              (try dsimp only at hSw)
              go_simp
              all_goals with_reducible rfl
            try simp only [Act.put, List.getElem_toArray, List.getElem_cons_succ, List.getElem_cons_zero, List.setIfInBounds_toArray, List.set_cons_zero, List.set_cons_succ]
            refine wpAnyH_take (i := 8) (v := ?_) rfl (by kernel_rfl) (by kernel_rfl) (by kernel_rfl) (fun _ _ _ h => h) (Or.inl ⟨by rfl, ?_⟩) (by assumption) ?_
            rotate_left
            · intro w hSw
              (try dsimp only at hSw)
              go_simp
              all_goals with_reducible rfl
            try simp only [Act.put, List.getElem_toArray, List.getElem_cons_succ, List.getElem_cons_zero, List.setIfInBounds_toArray, List.set_cons_zero, List.set_cons_succ]
            refine wpAnyH_ready (rs := [9]) (by kernel_rfl) (by simp) ?_
            refine AllReadyH.cons rfl (fun K hK => ?_) AllReadyH.nil
            rw [if_pos (by rfl)]
            go_simp
            have hB3 := hB2.alloc hB2.size (.cells #[.int .i64 0, .int .i64 0, .bool false] 23)
            have Z := Lib.hid (heap_alloc_new wa2 (.cells #[.int .i64 0, .int .i64 0, .bool false] 23))
            have lz : w5.heap.size ≤ wa2.heap.size := hB2.size
            generalize wa2.alloc (.cells #[.int .i64 0, .int .i64 0, .bool false] 23) = wa3 at hB3 Z ⊢
            clear hB2
            refine hK.out _ _ ?_ (fun hHeld => ?_)
            · exact StAt.c A2.out hB3
            clear hK K
            try simp only [Act.put, List.getElem_toArray, List.getElem_cons_succ, List.getElem_cons_zero, List.setIfInBounds_toArray, List.set_cons_zero, List.set_cons_succ]
            refine wpAnyH_ready (rs := [10]) (by kernel_rfl) (by simp) ?_
            refine AllReadyH.cons rfl (fun K hK => ?_) AllReadyH.nil
            rw [if_pos (by rfl)]
            refine wp_store_mid 23 (.tmp 21) (.tmp 68) (by rfl) wa2.heap.size 0 #[.int .i64 (add s2 e), .int .i64 (e), .bool true] (by rfl) (by rfl) (there_of_block Z.out (by simp)) (by kernel_rfl) (by kernel_rfl) ?_
            have Z2 := Lib.hid (heap_setCells_whole (cs := [Value.int .i64 0, .int .i64 0, .bool false]) (#[.int .i64 (add s2 e), .int .i64 (e), .bool true] : Array Value).toList rfl Z.out)
            have hB4 := below_setCells' wa2.heap.size lz (#[.int .i64 (add s2 e), .int .i64 (e), .bool true] : Array Value).toList 0 hB3
            generalize wa3.setCells wa2.heap.size 0 (#[.int .i64 (add s2 e), .int .i64 (e), .bool true] : Array Value).toList = wa4 at Z2 hB4 ⊢
            clear Z hB3
            refine hK.out _ _ ?_ (fun hHeld => ?_)
            · exact StAt.c A2.out hB4
            clear hK K
            try simp only [Act.put, List.getElem_toArray, List.getElem_cons_succ, List.getElem_cons_zero, List.setIfInBounds_toArray, List.set_cons_zero, List.set_cons_succ]
            refine wpAnyH_take (i := 11) (v := ?_) rfl (by kernel_rfl) (by kernel_rfl) (by kernel_rfl) (fun _ _ _ h => h) (Or.inl ⟨by rfl, ?_⟩) (by assumption) ?_
            rotate_left
            · intro w hSw
              (try dsimp only at hSw)
              go_simp
              all_goals with_reducible rfl
            try simp only [Act.put, List.getElem_toArray, List.getElem_cons_succ, List.getElem_cons_zero, List.setIfInBounds_toArray, List.set_cons_zero, List.set_cons_succ]
            refine wpAnyH_done (by kernel_rfl) ?_ _
            go_wp2_with fail
            go_meet
            exact ⟨_, rfl, rfl, lz, Z2.out, hB4⟩
          · rw [if_pos (by rfl)]
            go_simp
            have hB2 := hB1.alloc hB1.size (.cells #[.int .i64 0, .int .i64 0, .bool false] 23)
            have Z := Lib.hid (heap_alloc_new wa1 (.cells #[.int .i64 0, .int .i64 0, .bool false] 23))
            have lz : w5.heap.size ≤ wa1.heap.size := hB1.size
            generalize wa1.alloc (.cells #[.int .i64 0, .int .i64 0, .bool false] 23) = wa2 at hB2 Z ⊢
            clear hB1
            refine hK.out _ _ ?_ (fun hHeld => ?_)
            · exact StAt.c A2.out hB2
            clear hK K
            try simp only [Act.put, List.getElem_toArray, List.getElem_cons_succ, List.getElem_cons_zero, List.setIfInBounds_toArray, List.set_cons_zero, List.set_cons_succ]
            refine wpAnyH_ready (rs := [5]) (by kernel_rfl) (by simp) ?_
            refine AllReadyH.cons rfl (fun K hK => ?_) AllReadyH.nil
            rw [if_pos (by rfl)]
            go_simp
            go_at_call 10
            refine (next_to T 0 0 kd s2 e true u e (add s2 e) 0 _ HE.out rfl (by rw [show chg true e e = 0 from sub_self_ e]; exact wnt_still kd e _)).mono ?_
            rintro r wa3 ⟨rfl, b⟩
            have hB3 := hB2.trans (b.mono hB2.size)
            have Z := Lib.hid ((b.block _ (lt_of_heap Z.out)).trans Z.out)
            clear b hB2
            refine hK.out _ _ ?_ (fun hHeld => ?_)
            · exact StAt.c A2.out hB3
            clear hK K
            try simp only [Act.put, List.getElem_toArray, List.getElem_cons_succ, List.getElem_cons_zero, List.setIfInBounds_toArray, List.set_cons_zero, List.set_cons_succ]
            refine wpAnyH_take (i := 6) (v := ?_) rfl (by kernel_rfl) (by kernel_rfl) (by kernel_rfl) (fun _ _ _ h => h) (Or.inl ⟨by rfl, ?_⟩) (by assumption) ?_
            rotate_left
            · intro w hSw
              (try dsimp only at hSw)
              go_simp
              all_goals with_reducible rfl
            try simp only [Act.put, List.getElem_toArray, List.getElem_cons_succ, List.getElem_cons_zero, List.setIfInBounds_toArray, List.set_cons_zero, List.set_cons_succ]
            refine wpAnyH_take (i := 7) (v := ?_) rfl (by kernel_rfl) (by kernel_rfl) (by kernel_rfl) (fun _ _ _ h => h) (Or.inl ⟨by rfl, ?_⟩) (by assumption) ?_
            rotate_left
            · intro w hSw
              (try dsimp only at hSw)
              go_simp
              all_goals with_reducible rfl
            try simp only [Act.put, List.getElem_toArray, List.getElem_cons_succ, List.getElem_cons_zero, List.setIfInBounds_toArray, List.set_cons_zero, List.set_cons_succ]
            refine wpAnyH_take (i := 8) (v := ?_) rfl (by kernel_rfl) (by kernel_rfl) (by kernel_rfl) (fun _ _ _ h => h) (Or.inl ⟨by rfl, ?_⟩) (by assumption) ?_
            rotate_left
            · intro w hSw
              (try dsimp only at hSw)
              go_simp
              all_goals with_reducible rfl
            try simp only [Act.put, List.getElem_toArray, List.getElem_cons_succ, List.getElem_cons_zero, List.setIfInBounds_toArray, List.set_cons_zero, List.set_cons_succ]
            refine wpAnyH_ready (rs := [10]) (by kernel_rfl) (by simp) ?_
            refine AllReadyH.cons rfl (fun K hK => ?_) AllReadyH.nil
            rw [if_pos (by rfl)]
            refine wp_store_mid 23 (.tmp 21) (.tmp 68) (by rfl) wa1.heap.size 0 #[.int .i64 (add s2 e), .int .i64 (e), .bool true] (by rfl) (by rfl) (there_of_block Z.out (by simp)) (by kernel_rfl) (by kernel_rfl) ?_
            have Z2 := Lib.hid (heap_setCells_whole (cs := [Value.int .i64 0, .int .i64 0, .bool false]) (#[.int .i64 (add s2 e), .int .i64 (e), .bool true] : Array Value).toList rfl Z.out)
            have hB4 := below_setCells' wa1.heap.size lz (#[.int .i64 (add s2 e), .int .i64 (e), .bool true] : Array Value).toList 0 hB3
            generalize wa3.setCells wa1.heap.size 0 (#[.int .i64 (add s2 e), .int .i64 (e), .bool true] : Array Value).toList = wa4 at Z2 hB4 ⊢
            clear Z hB3
            refine hK.out _ _ ?_ (fun hHeld => ?_)
            · exact StAt.c A2.out hB4
            clear hK K
            try simp only [Act.put, List.getElem_toArray, List.getElem_cons_succ, List.getElem_cons_zero, List.setIfInBounds_toArray, List.set_cons_zero, List.set_cons_succ]
            refine wpAnyH_take (i := 11) (v := ?_) rfl (by kernel_rfl) (by kernel_rfl) (by kernel_rfl) (fun _ _ _ h => h) (Or.inl ⟨by rfl, ?_⟩) (by assumption) ?_
            rotate_left
            · intro w hSw
              (try dsimp only at hSw)
              go_simp
              all_goals with_reducible rfl
            try simp only [Act.put, List.getElem_toArray, List.getElem_cons_succ, List.getElem_cons_zero, List.setIfInBounds_toArray, List.set_cons_zero, List.set_cons_succ]
            refine wpAnyH_done (by kernel_rfl) ?_ _
            go_wp2_with fail
            go_meet
            exact ⟨_, rfl, rfl, lz, Z2.out, hB4⟩
        · rw [if_pos (by rfl)]
          go_simp
          have hB1 := hB0.alloc hB0.size (.cells #[.int .i64 0, .int .i64 0, .bool false] 23)
          have Z := Lib.hid (heap_alloc_new wa0 (.cells #[.int .i64 0, .int .i64 0, .bool false] 23))
          have lz : w5.heap.size ≤ wa0.heap.size := hB0.size
          generalize wa0.alloc (.cells #[.int .i64 0, .int .i64 0, .bool false] 23) = wa1 at hB1 Z ⊢
          clear hB0
          refine hK.out _ _ ?_ (fun hHeld => ?_)
          · exact StAt.c A2.out hB1
          clear hK K
          try simp only [Act.put, List.getElem_toArray, List.getElem_cons_succ, List.getElem_cons_zero, List.setIfInBounds_toArray, List.set_cons_zero, List.set_cons_succ]
          refine wpAnyH_ready (rs := [2]) (by kernel_rfl) (by simp) ?_
          refine AllReadyH.cons rfl (fun K hK => ?_) AllReadyH.nil
          rw [if_pos (by rfl)]
          go_simp
          go_at_call 11
          refine (of12_any T 0 0 kd _).mono ?_
          rintro r wa2 ⟨rfl, b⟩
          have hB2 := hB1.trans (b.mono hB1.size)
          have Z := Lib.hid ((b.block _ (lt_of_heap Z.out)).trans Z.out)
          clear b hB1
          refine hK.out _ _ ?_ (fun hHeld => ?_)
          · exact StAt.c A2.out hB2
          clear hK K
          try simp only [Act.put, List.getElem_toArray, List.getElem_cons_succ, List.getElem_cons_zero, List.setIfInBounds_toArray, List.set_cons_zero, List.set_cons_succ]
          refine wpAnyH_ready (rs := [5]) (by kernel_rfl) (by simp) ?_
          refine AllReadyH.cons rfl (fun K hK => ?_) AllReadyH.nil
          rw [if_pos (by rfl)]
          go_simp
          go_at_call 10
          refine (next_to T 0 0 kd s2 e true u e (add s2 e) 0 _ HE.out rfl (by rw [show chg true e e = 0 from sub_self_ e]; exact wnt_still kd e _)).mono ?_
          rintro r wa3 ⟨rfl, b⟩
          have hB3 := hB2.trans (b.mono hB2.size)
          have Z := Lib.hid ((b.block _ (lt_of_heap Z.out)).trans Z.out)
          clear b hB2
          refine hK.out _ _ ?_ (fun hHeld => ?_)
          · exact StAt.c A2.out hB3
          clear hK K
          try simp only [Act.put, List.getElem_toArray, List.getElem_cons_succ, List.getElem_cons_zero, List.setIfInBounds_toArray, List.set_cons_zero, List.set_cons_succ]
          refine wpAnyH_take (i := 6) (v := ?_) rfl (by kernel_rfl) (by kernel_rfl) (by kernel_rfl) (fun _ _ _ h => h) (Or.inl ⟨by rfl, ?_⟩) (by assumption) ?_
          rotate_left
          · intro w hSw
            (try dsimp only at hSw)
            go_simp
            all_goals with_reducible rfl
          try simp only [Act.put, List.getElem_toArray, List.getElem_cons_succ, List.getElem_cons_zero, List.setIfInBounds_toArray, List.set_cons_zero, List.set_cons_succ]
          refine wpAnyH_take (i := 7) (v := ?_) rfl (by kernel_rfl) (by kernel_rfl) (by kernel_rfl) (fun _ _ _ h => h) (Or.inl ⟨by rfl, ?_⟩) (by assumption) ?_
          rotate_left
          · intro w hSw
            (try dsimp only at hSw)
            go_simp
            all_goals with_reducible rfl
          try simp only [Act.put, List.getElem_toArray, List.getElem_cons_succ, List.getElem_cons_zero, List.setIfInBounds_toArray, List.set_cons_zero, List.set_cons_succ]
          refine wpAnyH_take (i := 8) (v := ?_) rfl (by kernel_rfl) (by kernel_rfl) (by kernel_rfl) (fun _ _ _ h => h) (Or.inl ⟨by rfl, ?_⟩) (by assumption) ?_
          rotate_left
          · intro w hSw
            (try dsimp only at hSw)
            go_simp
            all_goals with_reducible rfl
          try simp only [Act.put, List.getElem_toArray, List.getElem_cons_succ, List.getElem_cons_zero, List.setIfInBounds_toArray, List.set_cons_zero, List.set_cons_succ]
          refine wpAnyH_ready (rs := [10]) (by kernel_rfl) (by simp) ?_
          refine AllReadyH.cons rfl (fun K hK => ?_) AllReadyH.nil
          rw [if_pos (by rfl)]
          refine wp_store_mid 23 (.tmp 21) (.tmp 68) (by rfl) wa0.heap.size 0 #[.int .i64 (add s2 e), .int .i64 (e), .bool true] (by rfl) (by rfl) (there_of_block Z.out (by simp)) (by kernel_rfl) (by kernel_rfl) ?_
          have Z2 := Lib.hid (heap_setCells_whole (cs := [Value.int .i64 0, .int .i64 0, .bool false]) (#[.int .i64 (add s2 e), .int .i64 (e), .bool true] : Array Value).toList rfl Z.out)
          have hB4 := below_setCells' wa0.heap.size lz (#[.int .i64 (add s2 e), .int .i64 (e), .bool true] : Array Value).toList 0 hB3
          generalize wa3.setCells wa0.heap.size 0 (#[.int .i64 (add s2 e), .int .i64 (e), .bool true] : Array Value).toList = wa4 at Z2 hB4 ⊢
          clear Z hB3
          refine hK.out _ _ ?_ (fun hHeld => ?_)
          · exact StAt.c A2.out hB4
          clear hK K
          try simp only [Act.put, List.getElem_toArray, List.getElem_cons_succ, List.getElem_cons_zero, List.setIfInBounds_toArray, List.set_cons_zero, List.set_cons_succ]
          refine wpAnyH_take (i := 11) (v := ?_) rfl (by kernel_rfl) (by kernel_rfl) (by kernel_rfl) (fun _ _ _ h => h) (Or.inl ⟨by rfl, ?_⟩) (by assumption) ?_
          rotate_left
          · intro w hSw
            (try dsimp only at hSw)
            go_simp
            all_goals with_reducible rfl
          try simp only [Act.put, List.getElem_toArray, List.getElem_cons_succ, List.getElem_cons_zero, List.setIfInBounds_toArray, List.set_cons_zero, List.set_cons_succ]
          refine wpAnyH_done (by kernel_rfl) ?_ _
          go_wp2_with fail
          go_meet
          exact ⟨_, rfl, rfl, lz, Z2.out, hB4⟩
      case rest =>
      obtain ⟨g6, rfl, rfl, l6, V, b6⟩ := hcut
      generalize wc = w6 at *
      have V6 := Lib.hid V
      clear V
      have B6 := Lib.hid (B5.out.trans (b6.mono B5.out.size))
      clear b6
      go_wp2
      go_ret
      exact ⟨rfl, B6.out⟩
end Go.Proofs.Ytdglobolgdhmoaa
