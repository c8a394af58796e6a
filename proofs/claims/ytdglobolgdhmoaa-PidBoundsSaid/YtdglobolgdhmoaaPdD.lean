/- The head of the statements on pid: it is true. -/
import Derived.Test.YtdglobolgdhmoaaPdC
import Derived.Deep.CutRange
namespace Go.Proofs.Ytdglobolgdhmoaa
set_option linter.unusedSimpArgs false
set_option linter.unusedVariables false
open Go.RowKit
open Fx Pd
attribute [local go_sem] Oper.semAt_some

theorem next_to (t kp ki kd s p : Int) (h : Bool) (u e s2 n : Int) (w : World) (he : sub u t = e) (hs : add s e = s2) (hn : wnt kp ki kd e s2 (chg h e p) = n) :
    Calls Try.prog 10 #[ofV t kp ki kd, stV s p h, .int .i64 u] w fun r w' =>
      r = .returned (.tuple #[stV s2 e true, .int .i64 n]) ∧ Below w.heap.size w w' := by
  have := next_of t kp ki kd s p h u w
  rw [he, hs, hn] at this
  exact this
set_option maxRecDepth 100000 in
set_option maxHeartbeats 3200000 in
theorem head_any (w : World) :
    Calls Try.prog 9 #[] w fun e w' => e = .returned (.bool true) ∧ Below w.heap.size w w' := by
  have B0 := Lib.hid (Below.refl w.heap.size w)
  go_enter Try.func9, Try.ntmps9
  go_wp2_with fail
  refine (of12_any 500 5000 0 0 _).mono ?_
  rintro r wa ⟨rfl, ba⟩
  have Ba := Lib.hid (B0.out.trans (ba.mono B0.out.size))
  clear B0 ba
  go_wp2_with fail
  refine (next_to 500 5000 0 0 0 0 false 900 400 400 2 _ (by decide +kernel) (by decide +kernel) (by decide +kernel)).mono ?_
  rintro r wb ⟨rfl, bb⟩
  have Bb := Lib.hid (Ba.out.trans (bb.mono Ba.out.size))
  clear Ba bb
  unfold stV
  go_upto_region 2 with fail
  have A1 : Hid (StAt (wb.alloc (.cells #[.int .i64 400, .int .i64 400, .bool true] 23)) wb.heap.size 400 400 true) := heap_alloc_new _ _
  have B1 := Lib.hid (Bb.out.alloc Bb.out.size (.cells #[.int .i64 400, .int .i64 400, .bool true] 23))
  generalize wb.alloc (.cells #[.int .i64 400, .int .i64 400, .bool true] 23) = w1 at *
  clear Bb
  go_cut [3, 4] from 3 to 22 (fun x y wx => NewS w1 (1500) (1100) (2) x y wx)
  case first =>
    refine wp_region_held_drew (S := fun x => x.cell? ⟨wb.heap.size, 0, none⟩ = some (.int .i64 400) ∧ x.cell? ⟨wb.heap.size, 1, none⟩ = some (.int .i64 400) ∧ x.cell? ⟨wb.heap.size, 2, none⟩ = some (.bool true) ∧ Below w1.heap.size w1 x) (by kernel_rfl) (StAt.c A1.out (Below.drew (Below.refl _ _))) (fun hHeld => ?_)
    refine wpAnyH_take (i := 1) (v := ?_) rfl (by kernel_rfl) (by kernel_rfl) (by kernel_rfl) (fun _ _ _ h => h) (Or.inl ⟨by rfl, ?_⟩) (by assumption) ?_
    rotate_left
    · intro w hSw
      (try dsimp only at hSw)
      go_simp
      all_goals with_reducible rfl
    try simp only [Act.put, List.getElem_toArray, List.getElem_cons_succ, List.getElem_cons_zero, List.setIfInBounds_toArray, List.set_cons_zero, List.set_cons_succ]
    have hB0 := hHeld.2.2.2
    clear hHeld
    generalize w1.drew = wa0 at hB0 ⊢
    refine wpAnyH_ready (rs := [0, 6]) (by kernel_rfl) (by simp) ?_
    refine AllReadyH.cons rfl (fun K hK => ?_) (AllReadyH.cons rfl (fun K hK => ?_) AllReadyH.nil)
    · rw [if_pos (by rfl)]
      go_simp
      go_at_call 11
      refine (of12_any 500 0 1000 0 _).mono ?_
      rintro r wa1 ⟨rfl, b⟩
      have hB1 := hB0.trans (b.mono hB0.size)
      clear b hB0
      refine hK.out _ _ ?_ (fun hHeld => ?_)
      · exact StAt.c A1.out hB1
      clear hK K
      try simp only [Act.put, List.getElem_toArray, List.getElem_cons_succ, List.getElem_cons_zero, List.setIfInBounds_toArray, List.set_cons_zero, List.set_cons_succ]
      refine wpAnyH_ready (rs := [2, 6]) (by kernel_rfl) (by simp) ?_
      refine AllReadyH.cons rfl (fun K hK => ?_) (AllReadyH.cons rfl (fun K hK => ?_) AllReadyH.nil)
      · rw [if_pos (by rfl)]
        go_simp
        go_at_call 10
        refine (next_to 500 0 1000 0 400 400 true 1600 1100 1500 2 _ (by decide +kernel) (by decide +kernel) (by decide +kernel)).mono ?_
        rintro r wa2 ⟨rfl, b⟩
        have hB2 := hB1.trans (b.mono hB1.size)
        clear b hB1
        refine hK.out _ _ ?_ (fun hHeld => ?_)
        · exact StAt.c A1.out hB2
        clear hK K
        try simp only [Act.put, List.getElem_toArray, List.getElem_cons_succ, List.getElem_cons_zero, List.setIfInBounds_toArray, List.set_cons_zero, List.set_cons_succ]
        refine wpAnyH_take (i := 3) (v := ?_) rfl (by kernel_rfl) (by kernel_rfl) (by kernel_rfl) (fun _ _ _ h => h) (Or.inl ⟨by rfl, ?_⟩) (by assumption) ?_
        rotate_left
        · intro w hSw
          (try dsimp only at hSw)
          go_simp
          all_goals with_reducible rfl
        try simp only [Act.put, List.getElem_toArray, List.getElem_cons_succ, List.getElem_cons_zero, List.setIfInBounds_toArray, List.set_cons_zero, List.set_cons_succ]
        refine wpAnyH_take (i := 4) (v := ?_) rfl (by kernel_rfl) (by kernel_rfl) (by kernel_rfl) (fun _ _ _ h => h) (Or.inl ⟨by rfl, ?_⟩) (by assumption) ?_
        rotate_left
        · intro w hSw
          (try dsimp only at hSw)
          go_simp
          all_goals with_reducible rfl
        try simp only [Act.put, List.getElem_toArray, List.getElem_cons_succ, List.getElem_cons_zero, List.setIfInBounds_toArray, List.set_cons_zero, List.set_cons_succ]
        refine wpAnyH_take (i := 5) (v := ?_) rfl (by kernel_rfl) (by kernel_rfl) (by kernel_rfl) (fun _ _ _ h => h) (Or.inl ⟨by rfl, ?_⟩) (by assumption) ?_
        rotate_left
        · intro w hSw
          (try dsimp only at hSw)
          go_simp
          all_goals with_reducible rfl
        try simp only [Act.put, List.getElem_toArray, List.getElem_cons_succ, List.getElem_cons_zero, List.setIfInBounds_toArray, List.set_cons_zero, List.set_cons_succ]
        refine wpAnyH_ready (rs := [6]) (by kernel_rfl) (by simp) ?_
        refine AllReadyH.cons rfl (fun K hK => ?_) AllReadyH.nil
        rw [if_pos (by rfl)]
        go_simp
        have hB3 := hB2.alloc hB2.size (.cells #[.int .i64 0, .int .i64 0, .bool false] 23)
        have Z := Lib.hid (heap_alloc_new wa2 (.cells #[.int .i64 0, .int .i64 0, .bool false] 23))
        have lz : w1.heap.size ≤ wa2.heap.size := hB2.size
        generalize wa2.alloc (.cells #[.int .i64 0, .int .i64 0, .bool false] 23) = wa3 at hB3 Z ⊢
        clear hB2
        refine hK.out _ _ ?_ (fun hHeld => ?_)
        · exact StAt.c A1.out hB3
        clear hK K
        try simp only [Act.put, List.getElem_toArray, List.getElem_cons_succ, List.getElem_cons_zero, List.setIfInBounds_toArray, List.set_cons_zero, List.set_cons_succ]
        refine wpAnyH_ready (rs := [7]) (by kernel_rfl) (by simp) ?_
        refine AllReadyH.cons rfl (fun K hK => ?_) AllReadyH.nil
        rw [if_pos (by rfl)]
        refine wp_store_mid 23 (.tmp 3) (.tmp 21) (by rfl) wa2.heap.size 0 #[.int .i64 (1500), .int .i64 (1100), .bool true] (by rfl) (by rfl) (there_of_block Z.out (by simp)) (by kernel_rfl) (by kernel_rfl) ?_
        have Z2 := Lib.hid (heap_setCells_whole (cs := [Value.int .i64 0, .int .i64 0, .bool false]) (#[.int .i64 (1500), .int .i64 (1100), .bool true] : Array Value).toList rfl Z.out)
        have hB4 := below_setCells' wa2.heap.size lz (#[.int .i64 (1500), .int .i64 (1100), .bool true] : Array Value).toList 0 hB3
        generalize wa3.setCells wa2.heap.size 0 (#[.int .i64 (1500), .int .i64 (1100), .bool true] : Array Value).toList = wa4 at Z2 hB4 ⊢
        clear Z hB3
        refine hK.out _ _ ?_ (fun hHeld => ?_)
        · exact StAt.c A1.out hB4
        clear hK K
        try simp only [Act.put, List.getElem_toArray, List.getElem_cons_succ, List.getElem_cons_zero, List.setIfInBounds_toArray, List.set_cons_zero, List.set_cons_succ]
        refine wpAnyH_take (i := 8) (v := ?_) rfl (by kernel_rfl) (by kernel_rfl) (by kernel_rfl) (fun _ _ _ h => h) (Or.inl ⟨by rfl, ?_⟩) (by assumption) ?_
        rotate_left
        · intro w hSw
          (try dsimp only at hSw)
          go_simp
          all_goals with_reducible rfl
        try simp only [Act.put, List.getElem_toArray, List.getElem_cons_succ, List.getElem_cons_zero, List.setIfInBounds_toArray, List.set_cons_zero, List.set_cons_succ]
        refine wpAnyH_done (by kernel_rfl) ?_ _
        go_wp2_with fail
        go_meet
        exact ⟨_, rfl, rfl, lz, Z2.out, hB4⟩
      · rw [if_pos (by rfl)]
        go_simp
        have hB2 := hB1.alloc hB1.size (.cells #[.int .i64 0, .int .i64 0, .bool false] 23)
        have Z := Lib.hid (heap_alloc_new wa1 (.cells #[.int .i64 0, .int .i64 0, .bool false] 23))
        have lz : w1.heap.size ≤ wa1.heap.size := hB1.size
        generalize wa1.alloc (.cells #[.int .i64 0, .int .i64 0, .bool false] 23) = wa2 at hB2 Z ⊢
        clear hB1
        refine hK.out _ _ ?_ (fun hHeld => ?_)
        · exact StAt.c A1.out hB2
        clear hK K
        try simp only [Act.put, List.getElem_toArray, List.getElem_cons_succ, List.getElem_cons_zero, List.setIfInBounds_toArray, List.set_cons_zero, List.set_cons_succ]
        refine wpAnyH_ready (rs := [2]) (by kernel_rfl) (by simp) ?_
        refine AllReadyH.cons rfl (fun K hK => ?_) AllReadyH.nil
        rw [if_pos (by rfl)]
        go_simp
        go_at_call 10
        refine (next_to 500 0 1000 0 400 400 true 1600 1100 1500 2 _ (by decide +kernel) (by decide +kernel) (by decide +kernel)).mono ?_
        rintro r wa3 ⟨rfl, b⟩
        have hB3 := hB2.trans (b.mono hB2.size)
        have Z := Lib.hid ((b.block _ (lt_of_heap Z.out)).trans Z.out)
        clear b hB2
        refine hK.out _ _ ?_ (fun hHeld => ?_)
        · exact StAt.c A1.out hB3
        clear hK K
        try simp only [Act.put, List.getElem_toArray, List.getElem_cons_succ, List.getElem_cons_zero, List.setIfInBounds_toArray, List.set_cons_zero, List.set_cons_succ]
        refine wpAnyH_take (i := 3) (v := ?_) rfl (by kernel_rfl) (by kernel_rfl) (by kernel_rfl) (fun _ _ _ h => h) (Or.inl ⟨by rfl, ?_⟩) (by assumption) ?_
        rotate_left
        · intro w hSw
          (try dsimp only at hSw)
          go_simp
          all_goals with_reducible rfl
        try simp only [Act.put, List.getElem_toArray, List.getElem_cons_succ, List.getElem_cons_zero, List.setIfInBounds_toArray, List.set_cons_zero, List.set_cons_succ]
        refine wpAnyH_take (i := 4) (v := ?_) rfl (by kernel_rfl) (by kernel_rfl) (by kernel_rfl) (fun _ _ _ h => h) (Or.inl ⟨by rfl, ?_⟩) (by assumption) ?_
        rotate_left
        · intro w hSw
          (try dsimp only at hSw)
          go_simp
          all_goals with_reducible rfl
        try simp only [Act.put, List.getElem_toArray, List.getElem_cons_succ, List.getElem_cons_zero, List.setIfInBounds_toArray, List.set_cons_zero, List.set_cons_succ]
        refine wpAnyH_take (i := 5) (v := ?_) rfl (by kernel_rfl) (by kernel_rfl) (by kernel_rfl) (fun _ _ _ h => h) (Or.inl ⟨by rfl, ?_⟩) (by assumption) ?_
        rotate_left
        · intro w hSw
          (try dsimp only at hSw)
          go_simp
          all_goals with_reducible rfl
        try simp only [Act.put, List.getElem_toArray, List.getElem_cons_succ, List.getElem_cons_zero, List.setIfInBounds_toArray, List.set_cons_zero, List.set_cons_succ]
        refine wpAnyH_ready (rs := [7]) (by kernel_rfl) (by simp) ?_
        refine AllReadyH.cons rfl (fun K hK => ?_) AllReadyH.nil
        rw [if_pos (by rfl)]
        refine wp_store_mid 23 (.tmp 3) (.tmp 21) (by rfl) wa1.heap.size 0 #[.int .i64 (1500), .int .i64 (1100), .bool true] (by rfl) (by rfl) (there_of_block Z.out (by simp)) (by kernel_rfl) (by kernel_rfl) ?_
        have Z2 := Lib.hid (heap_setCells_whole (cs := [Value.int .i64 0, .int .i64 0, .bool false]) (#[.int .i64 (1500), .int .i64 (1100), .bool true] : Array Value).toList rfl Z.out)
        have hB4 := below_setCells' wa1.heap.size lz (#[.int .i64 (1500), .int .i64 (1100), .bool true] : Array Value).toList 0 hB3
        generalize wa3.setCells wa1.heap.size 0 (#[.int .i64 (1500), .int .i64 (1100), .bool true] : Array Value).toList = wa4 at Z2 hB4 ⊢
        clear Z hB3
        refine hK.out _ _ ?_ (fun hHeld => ?_)
        · exact StAt.c A1.out hB4
        clear hK K
        try simp only [Act.put, List.getElem_toArray, List.getElem_cons_succ, List.getElem_cons_zero, List.setIfInBounds_toArray, List.set_cons_zero, List.set_cons_succ]
        refine wpAnyH_take (i := 8) (v := ?_) rfl (by kernel_rfl) (by kernel_rfl) (by kernel_rfl) (fun _ _ _ h => h) (Or.inl ⟨by rfl, ?_⟩) (by assumption) ?_
        rotate_left
        · intro w hSw
          (try dsimp only at hSw)
          go_simp
          all_goals with_reducible rfl
        try simp only [Act.put, List.getElem_toArray, List.getElem_cons_succ, List.getElem_cons_zero, List.setIfInBounds_toArray, List.set_cons_zero, List.set_cons_succ]
        refine wpAnyH_done (by kernel_rfl) ?_ _
        go_wp2_with fail
        go_meet
        exact ⟨_, rfl, rfl, lz, Z2.out, hB4⟩
    · rw [if_pos (by rfl)]
      go_simp
      have hB1 := hB0.alloc hB0.size (.cells #[.int .i64 0, .int .i64 0, .bool false] 23)
      have Z := Lib.hid (heap_alloc_new wa0 (.cells #[.int .i64 0, .int .i64 0, .bool false] 23))
      have lz : w1.heap.size ≤ wa0.heap.size := hB0.size
      generalize wa0.alloc (.cells #[.int .i64 0, .int .i64 0, .bool false] 23) = wa1 at hB1 Z ⊢
      clear hB0
      refine hK.out _ _ ?_ (fun hHeld => ?_)
      · exact StAt.c A1.out hB1
      clear hK K
      try simp only [Act.put, List.getElem_toArray, List.getElem_cons_succ, List.getElem_cons_zero, List.setIfInBounds_toArray, List.set_cons_zero, List.set_cons_succ]
      refine wpAnyH_ready (rs := [0]) (by kernel_rfl) (by simp) ?_
      refine AllReadyH.cons rfl (fun K hK => ?_) AllReadyH.nil
      rw [if_pos (by rfl)]
      go_simp
      go_at_call 11
      refine (of12_any 500 0 1000 0 _).mono ?_
      rintro r wa2 ⟨rfl, b⟩
      have hB2 := hB1.trans (b.mono hB1.size)
      have Z := Lib.hid ((b.block _ (lt_of_heap Z.out)).trans Z.out)
      clear b hB1
      refine hK.out _ _ ?_ (fun hHeld => ?_)
      · exact StAt.c A1.out hB2
      clear hK K
      try simp only [Act.put, List.getElem_toArray, List.getElem_cons_succ, List.getElem_cons_zero, List.setIfInBounds_toArray, List.set_cons_zero, List.set_cons_succ]
      refine wpAnyH_ready (rs := [2]) (by kernel_rfl) (by simp) ?_
      refine AllReadyH.cons rfl (fun K hK => ?_) AllReadyH.nil
      rw [if_pos (by rfl)]
      go_simp
      go_at_call 10
      refine (next_to 500 0 1000 0 400 400 true 1600 1100 1500 2 _ (by decide +kernel) (by decide +kernel) (by decide +kernel)).mono ?_
      rintro r wa3 ⟨rfl, b⟩
      have hB3 := hB2.trans (b.mono hB2.size)
      have Z := Lib.hid ((b.block _ (lt_of_heap Z.out)).trans Z.out)
      clear b hB2
      refine hK.out _ _ ?_ (fun hHeld => ?_)
      · exact StAt.c A1.out hB3
      clear hK K
      try simp only [Act.put, List.getElem_toArray, List.getElem_cons_succ, List.getElem_cons_zero, List.setIfInBounds_toArray, List.set_cons_zero, List.set_cons_succ]
      refine wpAnyH_take (i := 3) (v := ?_) rfl (by kernel_rfl) (by kernel_rfl) (by kernel_rfl) (fun _ _ _ h => h) (Or.inl ⟨by rfl, ?_⟩) (by assumption) ?_
      rotate_left
      · intro w hSw
        (try dsimp only at hSw)
        go_simp
        all_goals with_reducible rfl
      try simp only [Act.put, List.getElem_toArray, List.getElem_cons_succ, List.getElem_cons_zero, List.setIfInBounds_toArray, List.set_cons_zero, List.set_cons_succ]
      refine wpAnyH_take (i := 4) (v := ?_) rfl (by kernel_rfl) (by kernel_rfl) (by kernel_rfl) (fun _ _ _ h => h) (Or.inl ⟨by rfl, ?_⟩) (by assumption) ?_
      rotate_left
      · intro w hSw
        (try dsimp only at hSw)
        go_simp
        all_goals with_reducible rfl
      try simp only [Act.put, List.getElem_toArray, List.getElem_cons_succ, List.getElem_cons_zero, List.setIfInBounds_toArray, List.set_cons_zero, List.set_cons_succ]
      refine wpAnyH_take (i := 5) (v := ?_) rfl (by kernel_rfl) (by kernel_rfl) (by kernel_rfl) (fun _ _ _ h => h) (Or.inl ⟨by rfl, ?_⟩) (by assumption) ?_
      rotate_left
      · intro w hSw
        (try dsimp only at hSw)
        go_simp
        all_goals with_reducible rfl
      try simp only [Act.put, List.getElem_toArray, List.getElem_cons_succ, List.getElem_cons_zero, List.setIfInBounds_toArray, List.set_cons_zero, List.set_cons_succ]
      refine wpAnyH_ready (rs := [7]) (by kernel_rfl) (by simp) ?_
      refine AllReadyH.cons rfl (fun K hK => ?_) AllReadyH.nil
      rw [if_pos (by rfl)]
      refine wp_store_mid 23 (.tmp 3) (.tmp 21) (by rfl) wa0.heap.size 0 #[.int .i64 (1500), .int .i64 (1100), .bool true] (by rfl) (by rfl) (there_of_block Z.out (by simp)) (by kernel_rfl) (by kernel_rfl) ?_
      have Z2 := Lib.hid (heap_setCells_whole (cs := [Value.int .i64 0, .int .i64 0, .bool false]) (#[.int .i64 (1500), .int .i64 (1100), .bool true] : Array Value).toList rfl Z.out)
      have hB4 := below_setCells' wa0.heap.size lz (#[.int .i64 (1500), .int .i64 (1100), .bool true] : Array Value).toList 0 hB3
      generalize wa3.setCells wa0.heap.size 0 (#[.int .i64 (1500), .int .i64 (1100), .bool true] : Array Value).toList = wa4 at Z2 hB4 ⊢
      clear Z hB3
      refine hK.out _ _ ?_ (fun hHeld => ?_)
      · exact StAt.c A1.out hB4
      clear hK K
      try simp only [Act.put, List.getElem_toArray, List.getElem_cons_succ, List.getElem_cons_zero, List.setIfInBounds_toArray, List.set_cons_zero, List.set_cons_succ]
      refine wpAnyH_take (i := 8) (v := ?_) rfl (by kernel_rfl) (by kernel_rfl) (by kernel_rfl) (fun _ _ _ h => h) (Or.inl ⟨by rfl, ?_⟩) (by assumption) ?_
      rotate_left
      · intro w hSw
        (try dsimp only at hSw)
        go_simp
        all_goals with_reducible rfl
      try simp only [Act.put, List.getElem_toArray, List.getElem_cons_succ, List.getElem_cons_zero, List.setIfInBounds_toArray, List.set_cons_zero, List.set_cons_succ]
      refine wpAnyH_done (by kernel_rfl) ?_ _
      go_wp2_with fail
      go_meet
      exact ⟨_, rfl, rfl, lz, Z2.out, hB4⟩
  case rest =>
  obtain ⟨g2, rfl, rfl, l2, V, b2⟩ := hcut
  generalize wc = w2 at *
  have V2 := Lib.hid V
  have A1 := Lib.hid (A1.out.on b2)
  clear V
  have B2 := Lib.hid (B1.out.trans (b2.mono B1.out.size))
  clear b2 B1
  go_upto_region 3 with fail
  go_cut [5, 6] from 5 to 28 (fun x y wx => NewS w2 (1600) (100) ((-1)) x y wx)
  case first =>
    refine wp_region_held_drew (S := fun x => x.cell? ⟨g2, 0, none⟩ = some (.int .i64 1500) ∧ x.cell? ⟨g2, 1, none⟩ = some (.int .i64 1100) ∧ x.cell? ⟨g2, 2, none⟩ = some (.bool true) ∧ Below w2.heap.size w2 x) (by kernel_rfl) (StAt.c V2.out (Below.drew (Below.refl _ _))) (fun hHeld => ?_)
    refine wpAnyH_take (i := 1) (v := ?_) rfl (by kernel_rfl) (by kernel_rfl) (by kernel_rfl) (fun _ _ _ h => h) (Or.inl ⟨by rfl, ?_⟩) (by assumption) ?_
    rotate_left
    · intro w hSw
      (try dsimp only at hSw)
      go_simp
      all_goals with_reducible rfl
    try simp only [Act.put, List.getElem_toArray, List.getElem_cons_succ, List.getElem_cons_zero, List.setIfInBounds_toArray, List.set_cons_zero, List.set_cons_succ]
    have hB0 := hHeld.2.2.2
    clear hHeld
    generalize w2.drew = wa0 at hB0 ⊢
    refine wpAnyH_ready (rs := [0, 6]) (by kernel_rfl) (by simp) ?_
    refine AllReadyH.cons rfl (fun K hK => ?_) (AllReadyH.cons rfl (fun K hK => ?_) AllReadyH.nil)
    · rw [if_pos (by rfl)]
      go_simp
      go_at_call 11
      refine (of12_any 500 0 0 1000 _).mono ?_
      rintro r wa1 ⟨rfl, b⟩
      have hB1 := hB0.trans (b.mono hB0.size)
      clear b hB0
      refine hK.out _ _ ?_ (fun hHeld => ?_)
      · exact StAt.c V2.out hB1
      clear hK K
      try simp only [Act.put, List.getElem_toArray, List.getElem_cons_succ, List.getElem_cons_zero, List.setIfInBounds_toArray, List.set_cons_zero, List.set_cons_succ]
      refine wpAnyH_ready (rs := [2, 6]) (by kernel_rfl) (by simp) ?_
      refine AllReadyH.cons rfl (fun K hK => ?_) (AllReadyH.cons rfl (fun K hK => ?_) AllReadyH.nil)
      · rw [if_pos (by rfl)]
        go_simp
        go_at_call 10
        refine (next_to 500 0 0 1000 1500 1100 true 600 100 1600 (-1) _ (by decide +kernel) (by decide +kernel) (by decide +kernel)).mono ?_
        rintro r wa2 ⟨rfl, b⟩
        have hB2 := hB1.trans (b.mono hB1.size)
        clear b hB1
        refine hK.out _ _ ?_ (fun hHeld => ?_)
        · exact StAt.c V2.out hB2
        clear hK K
        try simp only [Act.put, List.getElem_toArray, List.getElem_cons_succ, List.getElem_cons_zero, List.setIfInBounds_toArray, List.set_cons_zero, List.set_cons_succ]
        refine wpAnyH_take (i := 3) (v := ?_) rfl (by kernel_rfl) (by kernel_rfl) (by kernel_rfl) (fun _ _ _ h => h) (Or.inl ⟨by rfl, ?_⟩) (by assumption) ?_
        rotate_left
        · intro w hSw
          (try dsimp only at hSw)
          go_simp
          all_goals with_reducible rfl
        try simp only [Act.put, List.getElem_toArray, List.getElem_cons_succ, List.getElem_cons_zero, List.setIfInBounds_toArray, List.set_cons_zero, List.set_cons_succ]
        refine wpAnyH_take (i := 4) (v := ?_) rfl (by kernel_rfl) (by kernel_rfl) (by kernel_rfl) (fun _ _ _ h => h) (Or.inl ⟨by rfl, ?_⟩) (by assumption) ?_
        rotate_left
        · intro w hSw
          (try dsimp only at hSw)
          go_simp
          all_goals with_reducible rfl
        try simp only [Act.put, List.getElem_toArray, List.getElem_cons_succ, List.getElem_cons_zero, List.setIfInBounds_toArray, List.set_cons_zero, List.set_cons_succ]
        refine wpAnyH_take (i := 5) (v := ?_) rfl (by kernel_rfl) (by kernel_rfl) (by kernel_rfl) (fun _ _ _ h => h) (Or.inl ⟨by rfl, ?_⟩) (by assumption) ?_
        rotate_left
        · intro w hSw
          (try dsimp only at hSw)
          go_simp
          all_goals with_reducible rfl
        try simp only [Act.put, List.getElem_toArray, List.getElem_cons_succ, List.getElem_cons_zero, List.setIfInBounds_toArray, List.set_cons_zero, List.set_cons_succ]
        refine wpAnyH_ready (rs := [6]) (by kernel_rfl) (by simp) ?_
        refine AllReadyH.cons rfl (fun K hK => ?_) AllReadyH.nil
        rw [if_pos (by rfl)]
        go_simp
        have hB3 := hB2.alloc hB2.size (.cells #[.int .i64 0, .int .i64 0, .bool false] 23)
        have Z := Lib.hid (heap_alloc_new wa2 (.cells #[.int .i64 0, .int .i64 0, .bool false] 23))
        have lz : w2.heap.size ≤ wa2.heap.size := hB2.size
        generalize wa2.alloc (.cells #[.int .i64 0, .int .i64 0, .bool false] 23) = wa3 at hB3 Z ⊢
        clear hB2
        refine hK.out _ _ ?_ (fun hHeld => ?_)
        · exact StAt.c V2.out hB3
        clear hK K
        try simp only [Act.put, List.getElem_toArray, List.getElem_cons_succ, List.getElem_cons_zero, List.setIfInBounds_toArray, List.set_cons_zero, List.set_cons_succ]
        refine wpAnyH_ready (rs := [7]) (by kernel_rfl) (by simp) ?_
        refine AllReadyH.cons rfl (fun K hK => ?_) AllReadyH.nil
        rw [if_pos (by rfl)]
        refine wp_store_mid 23 (.tmp 5) (.tmp 27) (by rfl) wa2.heap.size 0 #[.int .i64 (1600), .int .i64 (100), .bool true] (by rfl) (by rfl) (there_of_block Z.out (by simp)) (by kernel_rfl) (by kernel_rfl) ?_
        have Z2 := Lib.hid (heap_setCells_whole (cs := [Value.int .i64 0, .int .i64 0, .bool false]) (#[.int .i64 (1600), .int .i64 (100), .bool true] : Array Value).toList rfl Z.out)
        have hB4 := below_setCells' wa2.heap.size lz (#[.int .i64 (1600), .int .i64 (100), .bool true] : Array Value).toList 0 hB3
        generalize wa3.setCells wa2.heap.size 0 (#[.int .i64 (1600), .int .i64 (100), .bool true] : Array Value).toList = wa4 at Z2 hB4 ⊢
        clear Z hB3
        refine hK.out _ _ ?_ (fun hHeld => ?_)
        · exact StAt.c V2.out hB4
        clear hK K
        try simp only [Act.put, List.getElem_toArray, List.getElem_cons_succ, List.getElem_cons_zero, List.setIfInBounds_toArray, List.set_cons_zero, List.set_cons_succ]
        refine wpAnyH_take (i := 8) (v := ?_) rfl (by kernel_rfl) (by kernel_rfl) (by kernel_rfl) (fun _ _ _ h => h) (Or.inl ⟨by rfl, ?_⟩) (by assumption) ?_
        rotate_left
        · intro w hSw
          (try dsimp only at hSw)
          go_simp
          all_goals with_reducible rfl
        try simp only [Act.put, List.getElem_toArray, List.getElem_cons_succ, List.getElem_cons_zero, List.setIfInBounds_toArray, List.set_cons_zero, List.set_cons_succ]
        refine wpAnyH_done (by kernel_rfl) ?_ _
        go_wp2_with fail
        go_meet
        exact ⟨_, rfl, rfl, lz, Z2.out, hB4⟩
      · rw [if_pos (by rfl)]
        go_simp
        have hB2 := hB1.alloc hB1.size (.cells #[.int .i64 0, .int .i64 0, .bool false] 23)
        have Z := Lib.hid (heap_alloc_new wa1 (.cells #[.int .i64 0, .int .i64 0, .bool false] 23))
        have lz : w2.heap.size ≤ wa1.heap.size := hB1.size
        generalize wa1.alloc (.cells #[.int .i64 0, .int .i64 0, .bool false] 23) = wa2 at hB2 Z ⊢
        clear hB1
        refine hK.out _ _ ?_ (fun hHeld => ?_)
        · exact StAt.c V2.out hB2
        clear hK K
        try simp only [Act.put, List.getElem_toArray, List.getElem_cons_succ, List.getElem_cons_zero, List.setIfInBounds_toArray, List.set_cons_zero, List.set_cons_succ]
        refine wpAnyH_ready (rs := [2]) (by kernel_rfl) (by simp) ?_
        refine AllReadyH.cons rfl (fun K hK => ?_) AllReadyH.nil
        rw [if_pos (by rfl)]
        go_simp
        go_at_call 10
        refine (next_to 500 0 0 1000 1500 1100 true 600 100 1600 (-1) _ (by decide +kernel) (by decide +kernel) (by decide +kernel)).mono ?_
        rintro r wa3 ⟨rfl, b⟩
        have hB3 := hB2.trans (b.mono hB2.size)
        have Z := Lib.hid ((b.block _ (lt_of_heap Z.out)).trans Z.out)
        clear b hB2
        refine hK.out _ _ ?_ (fun hHeld => ?_)
        · exact StAt.c V2.out hB3
        clear hK K
        try simp only [Act.put, List.getElem_toArray, List.getElem_cons_succ, List.getElem_cons_zero, List.setIfInBounds_toArray, List.set_cons_zero, List.set_cons_succ]
        refine wpAnyH_take (i := 3) (v := ?_) rfl (by kernel_rfl) (by kernel_rfl) (by kernel_rfl) (fun _ _ _ h => h) (Or.inl ⟨by rfl, ?_⟩) (by assumption) ?_
        rotate_left
        · intro w hSw
          (try dsimp only at hSw)
          go_simp
          all_goals with_reducible rfl
        try simp only [Act.put, List.getElem_toArray, List.getElem_cons_succ, List.getElem_cons_zero, List.setIfInBounds_toArray, List.set_cons_zero, List.set_cons_succ]
        refine wpAnyH_take (i := 4) (v := ?_) rfl (by kernel_rfl) (by kernel_rfl) (by kernel_rfl) (fun _ _ _ h => h) (Or.inl ⟨by rfl, ?_⟩) (by assumption) ?_
        rotate_left
        · intro w hSw
          (try dsimp only at hSw)
          go_simp
          all_goals with_reducible rfl
        try simp only [Act.put, List.getElem_toArray, List.getElem_cons_succ, List.getElem_cons_zero, List.setIfInBounds_toArray, List.set_cons_zero, List.set_cons_succ]
        refine wpAnyH_take (i := 5) (v := ?_) rfl (by kernel_rfl) (by kernel_rfl) (by kernel_rfl) (fun _ _ _ h => h) (Or.inl ⟨by rfl, ?_⟩) (by assumption) ?_
        rotate_left
        · intro w hSw
          (try dsimp only at hSw)
          go_simp
          all_goals with_reducible rfl
        try simp only [Act.put, List.getElem_toArray, List.getElem_cons_succ, List.getElem_cons_zero, List.setIfInBounds_toArray, List.set_cons_zero, List.set_cons_succ]
        refine wpAnyH_ready (rs := [7]) (by kernel_rfl) (by simp) ?_
        refine AllReadyH.cons rfl (fun K hK => ?_) AllReadyH.nil
        rw [if_pos (by rfl)]
        refine wp_store_mid 23 (.tmp 5) (.tmp 27) (by rfl) wa1.heap.size 0 #[.int .i64 (1600), .int .i64 (100), .bool true] (by rfl) (by rfl) (there_of_block Z.out (by simp)) (by kernel_rfl) (by kernel_rfl) ?_
        have Z2 := Lib.hid (heap_setCells_whole (cs := [Value.int .i64 0, .int .i64 0, .bool false]) (#[.int .i64 (1600), .int .i64 (100), .bool true] : Array Value).toList rfl Z.out)
        have hB4 := below_setCells' wa1.heap.size lz (#[.int .i64 (1600), .int .i64 (100), .bool true] : Array Value).toList 0 hB3
        generalize wa3.setCells wa1.heap.size 0 (#[.int .i64 (1600), .int .i64 (100), .bool true] : Array Value).toList = wa4 at Z2 hB4 ⊢
        clear Z hB3
        refine hK.out _ _ ?_ (fun hHeld => ?_)
        · exact StAt.c V2.out hB4
        clear hK K
        try simp only [Act.put, List.getElem_toArray, List.getElem_cons_succ, List.getElem_cons_zero, List.setIfInBounds_toArray, List.set_cons_zero, List.set_cons_succ]
        refine wpAnyH_take (i := 8) (v := ?_) rfl (by kernel_rfl) (by kernel_rfl) (by kernel_rfl) (fun _ _ _ h => h) (Or.inl ⟨by rfl, ?_⟩) (by assumption) ?_
        rotate_left
        · intro w hSw
          (try dsimp only at hSw)
          go_simp
          all_goals with_reducible rfl
        try simp only [Act.put, List.getElem_toArray, List.getElem_cons_succ, List.getElem_cons_zero, List.setIfInBounds_toArray, List.set_cons_zero, List.set_cons_succ]
        refine wpAnyH_done (by kernel_rfl) ?_ _
        go_wp2_with fail
        go_meet
        exact ⟨_, rfl, rfl, lz, Z2.out, hB4⟩
    · rw [if_pos (by rfl)]
      go_simp
      have hB1 := hB0.alloc hB0.size (.cells #[.int .i64 0, .int .i64 0, .bool false] 23)
      have Z := Lib.hid (heap_alloc_new wa0 (.cells #[.int .i64 0, .int .i64 0, .bool false] 23))
      have lz : w2.heap.size ≤ wa0.heap.size := hB0.size
      generalize wa0.alloc (.cells #[.int .i64 0, .int .i64 0, .bool false] 23) = wa1 at hB1 Z ⊢
      clear hB0
      refine hK.out _ _ ?_ (fun hHeld => ?_)
      · exact StAt.c V2.out hB1
      clear hK K
      try simp only [Act.put, List.getElem_toArray, List.getElem_cons_succ, List.getElem_cons_zero, List.setIfInBounds_toArray, List.set_cons_zero, List.set_cons_succ]
      refine wpAnyH_ready (rs := [0]) (by kernel_rfl) (by simp) ?_
      refine AllReadyH.cons rfl (fun K hK => ?_) AllReadyH.nil
      rw [if_pos (by rfl)]
      go_simp
      go_at_call 11
      refine (of12_any 500 0 0 1000 _).mono ?_
      rintro r wa2 ⟨rfl, b⟩
      have hB2 := hB1.trans (b.mono hB1.size)
      have Z := Lib.hid ((b.block _ (lt_of_heap Z.out)).trans Z.out)
      clear b hB1
      refine hK.out _ _ ?_ (fun hHeld => ?_)
      · exact StAt.c V2.out hB2
      clear hK K
      try simp only [Act.put, List.getElem_toArray, List.getElem_cons_succ, List.getElem_cons_zero, List.setIfInBounds_toArray, List.set_cons_zero, List.set_cons_succ]
      refine wpAnyH_ready (rs := [2]) (by kernel_rfl) (by simp) ?_
      refine AllReadyH.cons rfl (fun K hK => ?_) AllReadyH.nil
      rw [if_pos (by rfl)]
      go_simp
      go_at_call 10
      refine (next_to 500 0 0 1000 1500 1100 true 600 100 1600 (-1) _ (by decide +kernel) (by decide +kernel) (by decide +kernel)).mono ?_
      rintro r wa3 ⟨rfl, b⟩
      have hB3 := hB2.trans (b.mono hB2.size)
      have Z := Lib.hid ((b.block _ (lt_of_heap Z.out)).trans Z.out)
      clear b hB2
      refine hK.out _ _ ?_ (fun hHeld => ?_)
      · exact StAt.c V2.out hB3
      clear hK K
      try simp only [Act.put, List.getElem_toArray, List.getElem_cons_succ, List.getElem_cons_zero, List.setIfInBounds_toArray, List.set_cons_zero, List.set_cons_succ]
      refine wpAnyH_take (i := 3) (v := ?_) rfl (by kernel_rfl) (by kernel_rfl) (by kernel_rfl) (fun _ _ _ h => h) (Or.inl ⟨by rfl, ?_⟩) (by assumption) ?_
      rotate_left
      · intro w hSw
        (try dsimp only at hSw)
        go_simp
        all_goals with_reducible rfl
      try simp only [Act.put, List.getElem_toArray, List.getElem_cons_succ, List.getElem_cons_zero, List.setIfInBounds_toArray, List.set_cons_zero, List.set_cons_succ]
      refine wpAnyH_take (i := 4) (v := ?_) rfl (by kernel_rfl) (by kernel_rfl) (by kernel_rfl) (fun _ _ _ h => h) (Or.inl ⟨by rfl, ?_⟩) (by assumption) ?_
      rotate_left
      · intro w hSw
        (try dsimp only at hSw)
        go_simp
        all_goals with_reducible rfl
      try simp only [Act.put, List.getElem_toArray, List.getElem_cons_succ, List.getElem_cons_zero, List.setIfInBounds_toArray, List.set_cons_zero, List.set_cons_succ]
      refine wpAnyH_take (i := 5) (v := ?_) rfl (by kernel_rfl) (by kernel_rfl) (by kernel_rfl) (fun _ _ _ h => h) (Or.inl ⟨by rfl, ?_⟩) (by assumption) ?_
      rotate_left
      · intro w hSw
        (try dsimp only at hSw)
        go_simp
        all_goals with_reducible rfl
      try simp only [Act.put, List.getElem_toArray, List.getElem_cons_succ, List.getElem_cons_zero, List.setIfInBounds_toArray, List.set_cons_zero, List.set_cons_succ]
      refine wpAnyH_ready (rs := [7]) (by kernel_rfl) (by simp) ?_
      refine AllReadyH.cons rfl (fun K hK => ?_) AllReadyH.nil
      rw [if_pos (by rfl)]
      refine wp_store_mid 23 (.tmp 5) (.tmp 27) (by rfl) wa0.heap.size 0 #[.int .i64 (1600), .int .i64 (100), .bool true] (by rfl) (by rfl) (there_of_block Z.out (by simp)) (by kernel_rfl) (by kernel_rfl) ?_
      have Z2 := Lib.hid (heap_setCells_whole (cs := [Value.int .i64 0, .int .i64 0, .bool false]) (#[.int .i64 (1600), .int .i64 (100), .bool true] : Array Value).toList rfl Z.out)
      have hB4 := below_setCells' wa0.heap.size lz (#[.int .i64 (1600), .int .i64 (100), .bool true] : Array Value).toList 0 hB3
      generalize wa3.setCells wa0.heap.size 0 (#[.int .i64 (1600), .int .i64 (100), .bool true] : Array Value).toList = wa4 at Z2 hB4 ⊢
      clear Z hB3
      refine hK.out _ _ ?_ (fun hHeld => ?_)
      · exact StAt.c V2.out hB4
      clear hK K
      try simp only [Act.put, List.getElem_toArray, List.getElem_cons_succ, List.getElem_cons_zero, List.setIfInBounds_toArray, List.set_cons_zero, List.set_cons_succ]
      refine wpAnyH_take (i := 8) (v := ?_) rfl (by kernel_rfl) (by kernel_rfl) (by kernel_rfl) (fun _ _ _ h => h) (Or.inl ⟨by rfl, ?_⟩) (by assumption) ?_
      rotate_left
      · intro w hSw
        (try dsimp only at hSw)
        go_simp
        all_goals with_reducible rfl
      try simp only [Act.put, List.getElem_toArray, List.getElem_cons_succ, List.getElem_cons_zero, List.setIfInBounds_toArray, List.set_cons_zero, List.set_cons_succ]
      refine wpAnyH_done (by kernel_rfl) ?_ _
      go_wp2_with fail
      go_meet
      exact ⟨_, rfl, rfl, lz, Z2.out, hB4⟩
  case rest =>
  obtain ⟨g3, rfl, rfl, l3, V, b3⟩ := hcut
  generalize wc = w3 at *
  have V3 := Lib.hid V
  have A1 := Lib.hid (A1.out.on b3)
  have V2 := Lib.hid (V2.out.on b3)
  clear V
  have B3 := Lib.hid (B2.out.trans (b3.mono B2.out.size))
  clear b3 B2
  go_wp2_with fail
  refine (of12_any 500 0 0 1000 _).mono ?_
  rintro r wc ⟨rfl, bc⟩
  have A2 := Lib.hid (A1.out.on bc)
  have V4 := Lib.hid (V2.out.on bc)
  have B4 := Lib.hid (B3.out.trans (bc.mono B3.out.size))
  clear A1 V2 V3 B3 bc
  go_wp2_with fail
  refine (next_to 500 0 0 1000 0 0 false 600 100 100 0 _ (by decide +kernel) (by decide +kernel) (by decide +kernel)).mono ?_
  rintro r wd ⟨rfl, bd⟩
  unfold stV
  have A3 := Lib.hid (A2.out.on bd)
  have V5 := Lib.hid (V4.out.on bd)
  have B5 := Lib.hid (B4.out.trans (bd.mono B4.out.size))
  clear A2 V4 B4 bd
  go_wp2_with fail
  refine (of12_any 1 1000000000 0 0 _).mono ?_
  rintro r we ⟨rfl, be⟩
  have be2 := ((Below.refl wd.heap.size wd).alloc (Nat.le_refl _) (.cells #[.int .i64 100, .int .i64 100, .bool true] 23)).trans (be.mono (by simp))
  have A4 := Lib.hid (A3.out.on be2)
  have V6 := Lib.hid (V5.out.on be2)
  have B6 := Lib.hid (B5.out.trans (be2.mono B5.out.size))
  clear A3 V5 B5 be be2
  go_wp2_with fail
  refine (next_to 1 1000000000 0 0 0 0 false 4611686018427387904 999999999 999999999 1000 _ (by decide +kernel) (by decide +kernel) (by decide +kernel)).mono ?_
  rintro r wf ⟨rfl, bf⟩
  unfold stV
  have A5 := Lib.hid (A4.out.on bf)
  have V7 := Lib.hid (V6.out.on bf)
  have B7 := Lib.hid (B6.out.trans (bf.mono B6.out.size))
  clear A4 V6 B6 bf
  have B8 := (Below.refl wf.heap.size wf).alloc (Nat.le_refl _) (.cells #[.int .i64 999999999, .int .i64 999999999, .bool true] 23)
  obtain ⟨c10, c11, c12, _⟩ := StAt.c A5.out B8
  obtain ⟨c20, c21, c22, _⟩ := StAt.c V7.out B8
  have B9 := Lib.hid (B7.out.trans (B8.mono B7.out.size))
  clear B8
  go_wp2
  go_ret
  exact ⟨rfl, B9.out⟩
end Go.Proofs.Ytdglobolgdhmoaa
