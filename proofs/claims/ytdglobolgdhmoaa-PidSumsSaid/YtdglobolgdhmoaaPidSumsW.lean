/- PidSums: the walk. -/
import Derived.Test.YtdglobolgdhmoaaPdF
namespace Go.Proofs.Ytdglobolgdhmoaa
set_option linter.unusedSimpArgs false
set_option linter.unusedVariables false
open Go.RowKit
open Fx Pd
attribute [local go_sem] Oper.semAt_some

set_option maxRecDepth 100000 in
set_option maxHeartbeats 3200000 in
theorem pidSums_walk (t : Int) (a : Option Addr) (n c : Nat) (ks : List Int) (w : World) (hr : Row w w.heap.size a n c 1 (intsC ks)) (hn : ks.length = n) :
    Calls Try.prog 8 #[.int .i64 t, .slice a n c] w fun r w' => r = .returned (.bool true) ∧ Below w.heap.size w w' := by
  have hle := hr.le
  have hmx := hr.max
  unfold maxLen at hmx
  have RR := Lib.hid hr
  clear hr
  go_enter Try.func8, Try.ntmps8
  go_wp2_with fail
  refine (head_any _).mono ?_
  rintro r w1 ⟨rfl, b1⟩
  have B1 := Lib.hid b1
  clear b1
  by_cases h9 : 900 < n
  · go_wp2
    go_ret
    exact ⟨rfl, B1.out⟩
  have h9 : n ≤ 900 := by omega
  have HN := Lib.hid h9
  go_wp2_with fail
  go_loopw [7, 8] (fun al i wx => ∃ (k : Nat) (s e : Int) (h : Bool), k ≤ n ∧ i = .int .i64 (k : Int) ∧ al = .int .i64 s ∧ StAt wx w1.heap.size s e h ∧ Below w1.heap.size w1 wx) (fun _ i _ => n - (intOf i).toNat)
  case atStart => exact ⟨0, 0, 0, false, Nat.zero_le _, rfl, rfl, heap_alloc_new _ _, (Below.refl _ _).alloc (Nat.le_refl _) _⟩
  case round =>
    obtain ⟨k, s, e, h, hk, rfl, rfl, hA, hB⟩ := hrel
    have A1 := Lib.hid hA
    have B2 := Lib.hid hB
    have BW := Lib.hid (B1.out.trans (hB.mono B1.out.size))
    clear hA hB
    by_cases hlt : k < n
    · have hlt' : (k : Int) < (n : Int) := by omega
      have hk0 : (0 : Int) ≤ (k : Int) := by omega
      obtain ⟨b, o, rfl, hbl, hc⟩ := rcell RR.out BW.out hlt
      simp only [intsC] at hc
      generalize ks.getD k 0 = x at hc
      have HC := Lib.hid hc
      have HBL := Lib.hid hbl
      have HK := Lib.hid hlt
      clear hc hbl hlt
      have Q1 := Lib.hid (lt_of_heap A1.out)
      go_wp2_with fail
      go_cut [9, 10] from 23 to 33 (fun vt vu wx => NewS wr (add s (sub x t)) (sub x t) (0) vt vu wx)
      case first =>
        refine wp_region_held_drew (S := fun wy => wy.cell? ⟨b, o + k, none⟩ = some (.int .i64 x) ∧ wy.cell? ⟨w1.heap.size, 0, none⟩ = some (.int .i64 s) ∧ wy.cell? ⟨w1.heap.size, 1, none⟩ = some (.int .i64 e) ∧ wy.cell? ⟨w1.heap.size, 2, none⟩ = some (.bool h) ∧ Below wr.heap.size wr wy) (by kernel_rfl) (⟨(Below.cell (p := ⟨b, o + k, none⟩) (Below.drew (Below.refl _ _)) HBL.out).trans HC.out, StAt.c A1.out (Below.drew (Below.refl _ _))⟩) (fun hHeld => ?_)
        refine wpAnyH_take (i := 0) (v := ?_) rfl (by kernel_rfl) (by kernel_rfl) (by kernel_rfl) (fun _ _ _ h => h) (Or.inl ⟨by rfl, ?_⟩) (by assumption) ?_
        rotate_left
        · intro w hSw
          (try dsimp only at hSw)
          go_simp
          all_goals with_reducible rfl
        try simp only [Act.put, List.getElem_toArray, List.getElem_cons_succ, List.getElem_cons_zero, List.setIfInBounds_toArray, List.set_cons_zero, List.set_cons_succ]
        refine wpAnyH_take (i := 2) (v := ?_) rfl (by kernel_rfl) (by kernel_rfl) (by kernel_rfl) (fun _ _ _ h => h) (Or.inl ⟨by rfl, ?_⟩) (by assumption) ?_
        rotate_left
        · intro w hSw
          (try dsimp only at hSw)
          go_simp
          all_goals with_reducible rfl
        try simp only [Act.put, List.getElem_toArray, List.getElem_cons_succ, List.getElem_cons_zero, List.setIfInBounds_toArray, List.set_cons_zero, List.set_cons_succ]
        refine wpAnyH_take (i := 3) (v := ?_) rfl (by kernel_rfl) (by kernel_rfl) (by kernel_rfl) (fun _ _ _ h => h) (Or.inl ⟨by rfl, ?_⟩) (by assumption) ?_
        rotate_left
        · intro w hSw
          (try dsimp only at hSw)
          go_simp
          all_goals with_reducible rfl
        try simp only [Act.put, List.getElem_toArray, List.getElem_cons_succ, List.getElem_cons_zero, List.setIfInBounds_toArray, List.set_cons_zero, List.set_cons_succ]
        refine wpAnyH_take (i := 4) (v := ?_) rfl (by kernel_rfl) (by kernel_rfl) (by kernel_rfl) (fun _ _ _ h => h) (Or.inl ⟨by rfl, ?_⟩) (by assumption) ?_
        rotate_left
        · intro w hSw
          (try dsimp only at hSw)
          go_simp
          all_goals with_reducible rfl
        try simp only [Act.put, List.getElem_toArray, List.getElem_cons_succ, List.getElem_cons_zero, List.setIfInBounds_toArray, List.set_cons_zero, List.set_cons_succ]
        refine wpAnyH_take (i := 5) (v := ?_) rfl (by kernel_rfl) (by kernel_rfl) (by kernel_rfl) (fun _ _ _ h => h) (Or.inl ⟨by rfl, ?_⟩) (by assumption) ?_
        rotate_left
        · intro w hSw
          (try dsimp only at hSw)
          go_simp
          all_goals with_reducible rfl
        try simp only [Act.put, List.getElem_toArray, List.getElem_cons_succ, List.getElem_cons_zero, List.setIfInBounds_toArray, List.set_cons_zero, List.set_cons_succ]
        refine wpAnyH_take (i := 6) (v := ?_) rfl (by kernel_rfl) (by kernel_rfl) (by kernel_rfl) (fun _ _ _ h => h) (Or.inl ⟨by rfl, ?_⟩) (by assumption) ?_
        rotate_left
        · intro w hSw
          (try dsimp only at hSw)
          go_simp
          all_goals with_reducible rfl
        try simp only [Act.put, List.getElem_toArray, List.getElem_cons_succ, List.getElem_cons_zero, List.setIfInBounds_toArray, List.set_cons_zero, List.set_cons_succ]
        have hB0 := hHeld.2.2.2.2
        clear hHeld
        generalize wr.drew = wa0 at hB0 ⊢
        refine wpAnyH_ready (rs := [1, 11]) (by kernel_rfl) (by simp) ?_
        refine AllReadyH.cons rfl (fun K hK => ?_) (AllReadyH.cons rfl (fun K hK => ?_) AllReadyH.nil)
        · rw [if_pos (by rfl)]
          go_simp
          go_at_call 11
          refine (of12_any t 0 0 0 _).mono ?_
          rintro r wa1 ⟨rfl, b⟩
          have hB1 := hB0.trans (b.mono hB0.size)
          clear b hB0
          refine hK.out _ _ ?_ (fun hHeld => ?_)
          · exact ⟨(Below.cell (p := ⟨b, o + k, none⟩) hB1 HBL.out).trans HC.out, StAt.c A1.out hB1⟩
          clear hK K
          try simp only [Act.put, List.getElem_toArray, List.getElem_cons_succ, List.getElem_cons_zero, List.setIfInBounds_toArray, List.set_cons_zero, List.set_cons_succ]
          refine wpAnyH_ready (rs := [7, 11]) (by kernel_rfl) (by simp) ?_
          refine AllReadyH.cons rfl (fun K hK => ?_) (AllReadyH.cons rfl (fun K hK => ?_) AllReadyH.nil)
          · rw [if_pos (by rfl)]
            go_simp
            go_at_call 10
            refine (next_z t s e h x _ _ _ _ rfl rfl rfl).mono ?_
            rintro r wa2 ⟨rfl, b⟩
            have hB2 := hB1.trans (b.mono hB1.size)
            clear b hB1
            refine hK.out _ _ ?_ (fun hHeld => ?_)
            · exact ⟨(Below.cell (p := ⟨b, o + k, none⟩) hB2 HBL.out).trans HC.out, StAt.c A1.out hB2⟩
            clear hK K
            try simp only [Act.put, List.getElem_toArray, List.getElem_cons_succ, List.getElem_cons_zero, List.setIfInBounds_toArray, List.set_cons_zero, List.set_cons_succ]
            refine wpAnyH_take (i := 8) (v := ?_) rfl (by kernel_rfl) (by kernel_rfl) (by kernel_rfl) (fun _ _ _ h => h) (Or.inl ⟨by rfl, ?_⟩) (by assumption) ?_
            rotate_left
            · intro w hSw
              (try dsimp only at hSw)
              go_simp
              all_goals with_reducible rfl
            try simp only [Act.put, List.getElem_toArray, List.getElem_cons_succ, List.getElem_cons_zero, List.setIfInBounds_toArray, List.set_cons_zero, List.set_cons_succ]
            refine wpAnyH_take (i := 9) (v := ?_) rfl (by kernel_rfl) (by kernel_rfl) (by kernel_rfl) (fun _ _ _ h => h) (Or.inl ⟨by rfl, ?_⟩) (by assumption) ?_
            rotate_left
            · intro w hSw
              (try dsimp only at hSw)
              go_simp
              all_goals with_reducible rfl
            try simp only [Act.put, List.getElem_toArray, List.getElem_cons_succ, List.getElem_cons_zero, List.setIfInBounds_toArray, List.set_cons_zero, List.set_cons_succ]
            refine wpAnyH_take (i := 10) (v := ?_) rfl (by kernel_rfl) (by kernel_rfl) (by kernel_rfl) (fun _ _ _ h => h) (Or.inl ⟨by rfl, ?_⟩) (by assumption) ?_
            rotate_left
            · intro w hSw
              (try dsimp only at hSw)
              go_simp
              all_goals with_reducible rfl
            try simp only [Act.put, List.getElem_toArray, List.getElem_cons_succ, List.getElem_cons_zero, List.setIfInBounds_toArray, List.set_cons_zero, List.set_cons_succ]
            refine wpAnyH_ready (rs := [11]) (by kernel_rfl) (by simp) ?_
            refine AllReadyH.cons rfl (fun K hK => ?_) AllReadyH.nil
            rw [if_pos (by rfl)]
            go_simp
            have hB3 := hB2.alloc hB2.size (.cells #[.int .i64 0, .int .i64 0, .bool false] 23)
            have Z := Lib.hid (heap_alloc_new wa2 (.cells #[.int .i64 0, .int .i64 0, .bool false] 23))
            have lz : wr.heap.size ≤ wa2.heap.size := hB2.size
            generalize wa2.alloc (.cells #[.int .i64 0, .int .i64 0, .bool false] 23) = wa3 at hB3 Z ⊢
            clear hB2
            refine hK.out _ _ ?_ (fun hHeld => ?_)
            · exact ⟨(Below.cell (p := ⟨b, o + k, none⟩) hB3 HBL.out).trans HC.out, StAt.c A1.out hB3⟩
            clear hK K
            try simp only [Act.put, List.getElem_toArray, List.getElem_cons_succ, List.getElem_cons_zero, List.setIfInBounds_toArray, List.set_cons_zero, List.set_cons_succ]
            refine wpAnyH_ready (rs := [12]) (by kernel_rfl) (by simp) ?_
            refine AllReadyH.cons rfl (fun K hK => ?_) AllReadyH.nil
            rw [if_pos (by rfl)]
            refine wp_store_mid 23 (.tmp 9) (.tmp 32) (by rfl) wa2.heap.size 0 #[.int .i64 (add s (sub x t)), .int .i64 (sub x t), .bool true] (by rfl) (by rfl) (there_of_block Z.out (by simp)) (by kernel_rfl) (by kernel_rfl) ?_
            have Z2 := Lib.hid (heap_setCells_whole (cs := [Value.int .i64 0, .int .i64 0, .bool false]) (#[.int .i64 (add s (sub x t)), .int .i64 (sub x t), .bool true] : Array Value).toList rfl Z.out)
            have hB4 := below_setCells' wa2.heap.size lz (#[.int .i64 (add s (sub x t)), .int .i64 (sub x t), .bool true] : Array Value).toList 0 hB3
            generalize wa3.setCells wa2.heap.size 0 (#[.int .i64 (add s (sub x t)), .int .i64 (sub x t), .bool true] : Array Value).toList = wa4 at Z2 hB4 ⊢
            clear Z hB3
            refine hK.out _ _ ?_ (fun hHeld => ?_)
            · exact ⟨(Below.cell (p := ⟨b, o + k, none⟩) hB4 HBL.out).trans HC.out, StAt.c A1.out hB4⟩
            clear hK K
            try simp only [Act.put, List.getElem_toArray, List.getElem_cons_succ, List.getElem_cons_zero, List.setIfInBounds_toArray, List.set_cons_zero, List.set_cons_succ]
            refine wpAnyH_take (i := 13) (v := ?_) rfl (by kernel_rfl) (by kernel_rfl) (by kernel_rfl) (fun _ _ _ h => h) (Or.inl ⟨by rfl, ?_⟩) (by assumption) ?_
            rotate_left
            · intro w hSw
              (try dsimp only at hSw)
              go_simp
              all_goals with_reducible rfl
            try simp only [Act.put, List.getElem_toArray, List.getElem_cons_succ, List.getElem_cons_zero, List.setIfInBounds_toArray, List.set_cons_zero, List.set_cons_succ]
            refine wpAnyH_done (by kernel_rfl) ?_ _
            go_wp2_with fail
            go_meet
            exact ⟨_, rfl, rfl, lz, Z2.out, hB4⟩
          · rw [if_pos (by rfl)]
            go_simp
            have hB2 := hB1.alloc hB1.size (.cells #[.int .i64 0, .int .i64 0, .bool false] 23)
            have Z := Lib.hid (heap_alloc_new wa1 (.cells #[.int .i64 0, .int .i64 0, .bool false] 23))
            have lz : wr.heap.size ≤ wa1.heap.size := hB1.size
            generalize wa1.alloc (.cells #[.int .i64 0, .int .i64 0, .bool false] 23) = wa2 at hB2 Z ⊢
            clear hB1
            refine hK.out _ _ ?_ (fun hHeld => ?_)
            · exact ⟨(Below.cell (p := ⟨b, o + k, none⟩) hB2 HBL.out).trans HC.out, StAt.c A1.out hB2⟩
            clear hK K
            try simp only [Act.put, List.getElem_toArray, List.getElem_cons_succ, List.getElem_cons_zero, List.setIfInBounds_toArray, List.set_cons_zero, List.set_cons_succ]
            refine wpAnyH_ready (rs := [7]) (by kernel_rfl) (by simp) ?_
            refine AllReadyH.cons rfl (fun K hK => ?_) AllReadyH.nil
            rw [if_pos (by rfl)]
            go_simp
            go_at_call 10
            refine (next_z t s e h x _ _ _ _ rfl rfl rfl).mono ?_
            rintro r wa3 ⟨rfl, b⟩
            have hB3 := hB2.trans (b.mono hB2.size)
            have Z := Lib.hid ((b.block _ (lt_of_heap Z.out)).trans Z.out)
            clear b hB2
            refine hK.out _ _ ?_ (fun hHeld => ?_)
            · exact ⟨(Below.cell (p := ⟨b, o + k, none⟩) hB3 HBL.out).trans HC.out, StAt.c A1.out hB3⟩
            clear hK K
            try simp only [Act.put, List.getElem_toArray, List.getElem_cons_succ, List.getElem_cons_zero, List.setIfInBounds_toArray, List.set_cons_zero, List.set_cons_succ]
            refine wpAnyH_take (i := 8) (v := ?_) rfl (by kernel_rfl) (by kernel_rfl) (by kernel_rfl) (fun _ _ _ h => h) (Or.inl ⟨by rfl, ?_⟩) (by assumption) ?_
            rotate_left
            · intro w hSw
              (try dsimp only at hSw)
              go_simp
              all_goals with_reducible rfl
            try simp only [Act.put, List.getElem_toArray, List.getElem_cons_succ, List.getElem_cons_zero, List.setIfInBounds_toArray, List.set_cons_zero, List.set_cons_succ]
            refine wpAnyH_take (i := 9) (v := ?_) rfl (by kernel_rfl) (by kernel_rfl) (by kernel_rfl) (fun _ _ _ h => h) (Or.inl ⟨by rfl, ?_⟩) (by assumption) ?_
            rotate_left
            · intro w hSw
              (try dsimp only at hSw)
              go_simp
              all_goals with_reducible rfl
            try simp only [Act.put, List.getElem_toArray, List.getElem_cons_succ, List.getElem_cons_zero, List.setIfInBounds_toArray, List.set_cons_zero, List.set_cons_succ]
            refine wpAnyH_take (i := 10) (v := ?_) rfl (by kernel_rfl) (by kernel_rfl) (by kernel_rfl) (fun _ _ _ h => h) (Or.inl ⟨by rfl, ?_⟩) (by assumption) ?_
            rotate_left
            · intro w hSw
              (try dsimp only at hSw)
              go_simp
              all_goals with_reducible rfl
            try simp only [Act.put, List.getElem_toArray, List.getElem_cons_succ, List.getElem_cons_zero, List.setIfInBounds_toArray, List.set_cons_zero, List.set_cons_succ]
            refine wpAnyH_ready (rs := [12]) (by kernel_rfl) (by simp) ?_
            refine AllReadyH.cons rfl (fun K hK => ?_) AllReadyH.nil
            rw [if_pos (by rfl)]
            refine wp_store_mid 23 (.tmp 9) (.tmp 32) (by rfl) wa1.heap.size 0 #[.int .i64 (add s (sub x t)), .int .i64 (sub x t), .bool true] (by rfl) (by rfl) (there_of_block Z.out (by simp)) (by kernel_rfl) (by kernel_rfl) ?_
            have Z2 := Lib.hid (heap_setCells_whole (cs := [Value.int .i64 0, .int .i64 0, .bool false]) (#[.int .i64 (add s (sub x t)), .int .i64 (sub x t), .bool true] : Array Value).toList rfl Z.out)
            have hB4 := below_setCells' wa1.heap.size lz (#[.int .i64 (add s (sub x t)), .int .i64 (sub x t), .bool true] : Array Value).toList 0 hB3
            generalize wa3.setCells wa1.heap.size 0 (#[.int .i64 (add s (sub x t)), .int .i64 (sub x t), .bool true] : Array Value).toList = wa4 at Z2 hB4 ⊢
            clear Z hB3
            refine hK.out _ _ ?_ (fun hHeld => ?_)
            · exact ⟨(Below.cell (p := ⟨b, o + k, none⟩) hB4 HBL.out).trans HC.out, StAt.c A1.out hB4⟩
            clear hK K
            try simp only [Act.put, List.getElem_toArray, List.getElem_cons_succ, List.getElem_cons_zero, List.setIfInBounds_toArray, List.set_cons_zero, List.set_cons_succ]
            refine wpAnyH_take (i := 13) (v := ?_) rfl (by kernel_rfl) (by kernel_rfl) (by kernel_rfl) (fun _ _ _ h => h) (Or.inl ⟨by rfl, ?_⟩) (by assumption) ?_
            rotate_left
            · intro w hSw
              (try dsimp only at hSw)
              go_simp
              all_goals with_reducible rfl
            try simp only [Act.put, List.getElem_toArray, List.getElem_cons_succ, List.getElem_cons_zero, List.setIfInBounds_toArray, List.set_cons_zero, List.set_cons_succ]
            refine wpAnyH_done (by kernel_rfl) ?_ _
            go_wp2_with fail
            go_meet
            exact ⟨_, rfl, rfl, lz, Z2.out, hB4⟩
        · rw [if_pos (by rfl)]
          go_simp
          have hB1 := hB0.alloc hB0.size (.cells #[.int .i64 0, .int .i64 0, .bool false] 23)
          have Z := Lib.hid (heap_alloc_new wa0 (.cells #[.int .i64 0, .int .i64 0, .bool false] 23))
          have lz : wr.heap.size ≤ wa0.heap.size := hB0.size
          generalize wa0.alloc (.cells #[.int .i64 0, .int .i64 0, .bool false] 23) = wa1 at hB1 Z ⊢
          clear hB0
          refine hK.out _ _ ?_ (fun hHeld => ?_)
          · exact ⟨(Below.cell (p := ⟨b, o + k, none⟩) hB1 HBL.out).trans HC.out, StAt.c A1.out hB1⟩
          clear hK K
          try simp only [Act.put, List.getElem_toArray, List.getElem_cons_succ, List.getElem_cons_zero, List.setIfInBounds_toArray, List.set_cons_zero, List.set_cons_succ]
          refine wpAnyH_ready (rs := [1]) (by kernel_rfl) (by simp) ?_
          refine AllReadyH.cons rfl (fun K hK => ?_) AllReadyH.nil
          rw [if_pos (by rfl)]
          go_simp
          go_at_call 11
          refine (of12_any t 0 0 0 _).mono ?_
          rintro r wa2 ⟨rfl, b⟩
          have hB2 := hB1.trans (b.mono hB1.size)
          have Z := Lib.hid ((b.block _ (lt_of_heap Z.out)).trans Z.out)
          clear b hB1
          refine hK.out _ _ ?_ (fun hHeld => ?_)
          · exact ⟨(Below.cell (p := ⟨b, o + k, none⟩) hB2 HBL.out).trans HC.out, StAt.c A1.out hB2⟩
          clear hK K
          try simp only [Act.put, List.getElem_toArray, List.getElem_cons_succ, List.getElem_cons_zero, List.setIfInBounds_toArray, List.set_cons_zero, List.set_cons_succ]
          refine wpAnyH_ready (rs := [7]) (by kernel_rfl) (by simp) ?_
          refine AllReadyH.cons rfl (fun K hK => ?_) AllReadyH.nil
          rw [if_pos (by rfl)]
          go_simp
          go_at_call 10
          refine (next_z t s e h x _ _ _ _ rfl rfl rfl).mono ?_
          rintro r wa3 ⟨rfl, b⟩
          have hB3 := hB2.trans (b.mono hB2.size)
          have Z := Lib.hid ((b.block _ (lt_of_heap Z.out)).trans Z.out)
          clear b hB2
          refine hK.out _ _ ?_ (fun hHeld => ?_)
          · exact ⟨(Below.cell (p := ⟨b, o + k, none⟩) hB3 HBL.out).trans HC.out, StAt.c A1.out hB3⟩
          clear hK K
          try simp only [Act.put, List.getElem_toArray, List.getElem_cons_succ, List.getElem_cons_zero, List.setIfInBounds_toArray, List.set_cons_zero, List.set_cons_succ]
          refine wpAnyH_take (i := 8) (v := ?_) rfl (by kernel_rfl) (by kernel_rfl) (by kernel_rfl) (fun _ _ _ h => h) (Or.inl ⟨by rfl, ?_⟩) (by assumption) ?_
          rotate_left
          · intro w hSw
            (try dsimp only at hSw)
            go_simp
            all_goals with_reducible rfl
          try simp only [Act.put, List.getElem_toArray, List.getElem_cons_succ, List.getElem_cons_zero, List.setIfInBounds_toArray, List.set_cons_zero, List.set_cons_succ]
          refine wpAnyH_take (i := 9) (v := ?_) rfl (by kernel_rfl) (by kernel_rfl) (by kernel_rfl) (fun _ _ _ h => h) (Or.inl ⟨by rfl, ?_⟩) (by assumption) ?_
          rotate_left
          · intro w hSw
            (try dsimp only at hSw)
            go_simp
            all_goals with_reducible rfl
          try simp only [Act.put, List.getElem_toArray, List.getElem_cons_succ, List.getElem_cons_zero, List.setIfInBounds_toArray, List.set_cons_zero, List.set_cons_succ]
          refine wpAnyH_take (i := 10) (v := ?_) rfl (by kernel_rfl) (by kernel_rfl) (by kernel_rfl) (fun _ _ _ h => h) (Or.inl ⟨by rfl, ?_⟩) (by assumption) ?_
          rotate_left
          · intro w hSw
            (try dsimp only at hSw)
            go_simp
            all_goals with_reducible rfl
          try simp only [Act.put, List.getElem_toArray, List.getElem_cons_succ, List.getElem_cons_zero, List.setIfInBounds_toArray, List.set_cons_zero, List.set_cons_succ]
          refine wpAnyH_ready (rs := [12]) (by kernel_rfl) (by simp) ?_
          refine AllReadyH.cons rfl (fun K hK => ?_) AllReadyH.nil
          rw [if_pos (by rfl)]
          refine wp_store_mid 23 (.tmp 9) (.tmp 32) (by rfl) wa0.heap.size 0 #[.int .i64 (add s (sub x t)), .int .i64 (sub x t), .bool true] (by rfl) (by rfl) (there_of_block Z.out (by simp)) (by kernel_rfl) (by kernel_rfl) ?_
          have Z2 := Lib.hid (heap_setCells_whole (cs := [Value.int .i64 0, .int .i64 0, .bool false]) (#[.int .i64 (add s (sub x t)), .int .i64 (sub x t), .bool true] : Array Value).toList rfl Z.out)
          have hB4 := below_setCells' wa0.heap.size lz (#[.int .i64 (add s (sub x t)), .int .i64 (sub x t), .bool true] : Array Value).toList 0 hB3
          generalize wa3.setCells wa0.heap.size 0 (#[.int .i64 (add s (sub x t)), .int .i64 (sub x t), .bool true] : Array Value).toList = wa4 at Z2 hB4 ⊢
          clear Z hB3
          refine hK.out _ _ ?_ (fun hHeld => ?_)
          · exact ⟨(Below.cell (p := ⟨b, o + k, none⟩) hB4 HBL.out).trans HC.out, StAt.c A1.out hB4⟩
          clear hK K
          try simp only [Act.put, List.getElem_toArray, List.getElem_cons_succ, List.getElem_cons_zero, List.setIfInBounds_toArray, List.set_cons_zero, List.set_cons_succ]
          refine wpAnyH_take (i := 13) (v := ?_) rfl (by kernel_rfl) (by kernel_rfl) (by kernel_rfl) (fun _ _ _ h => h) (Or.inl ⟨by rfl, ?_⟩) (by assumption) ?_
          rotate_left
          · intro w hSw
            (try dsimp only at hSw)
            go_simp
            all_goals with_reducible rfl
          try simp only [Act.put, List.getElem_toArray, List.getElem_cons_succ, List.getElem_cons_zero, List.setIfInBounds_toArray, List.set_cons_zero, List.set_cons_succ]
          refine wpAnyH_done (by kernel_rfl) ?_ _
          go_wp2_with fail
          go_meet
          exact ⟨_, rfl, rfl, lz, Z2.out, hB4⟩
      case rest =>
      obtain ⟨g3, rfl, rfl, l3, V, b3⟩ := hcut
      generalize wc = w3 at *
      have V3 := Lib.hid V
      have A1 := Lib.hid (A1.out.on b3)
      clear V
      have c0 := (b3.cell (p := ⟨b, o + k, none⟩) HBL.out).trans HC.out
      have B3 := Lib.hid (B2.out.trans (b3.mono B2.out.size))
      have hg3 : w1.heap.size ≠ g3 := by have := Q1.out; omega
      clear b3
      go_wp2_with fail
      refine (qd (rsub_any x t _)).mono ?_
      rintro r w9 ⟨rfl, rfl⟩
      go_wp2_with fail
      refine (qd (radd_any s (sub x t) _)).mono ?_
      rintro r w9 ⟨rfl, rfl⟩
      generalize add s (sub x t) = s2 at *
      generalize sub x t = e2 at *
      obtain ⟨c30, c31, c32, _⟩ := StAt.c V3.out (Below.refl _ _)
      go_wp2_with (first | (refine wpList_store_mid (by rfl) 23 (.tmp 6) (.tmp 62) (by rfl) w1.heap.size 0 #[.int .i64 s2, .int .i64 e2, .bool true] (by rfl) (by rfl) (StAt.there A1.out) (by kernel_rfl) (by kernel_rfl) ?_))
      go_roundw
      case rel => exact ⟨k + 1, s2, e2, true, HK.out, by go_num, by trivial, StAt.set A1.out s2 e2 true, below_setCells' w1.heap.size (Nat.le_refl _) _ 0 B3.out⟩
      case measure => have := HK.out; simp [intOf]; omega
    · have hlt' : ¬ (k : Int) < (n : Int) := by omega
      go_wp2
      go_ret
      exact ⟨rfl, BW.out⟩
end Go.Proofs.Ytdglobolgdhmoaa
