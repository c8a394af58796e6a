/- The reference's Read. -/
import Derived.Test.YtiiellclnmakpaaDoorSgS
import Derived.Test.YtiiellclnmakpaaDoorFrK
namespace Go.Proofs.YtiiellclnmakpaaDoor
open Go.RowKit Go.Shelf
open Crc Frm

def RdPost (r : Nat × List Fr × Nat × Nat) (w : World) (e : Ending) (w' : World) : Prop :=
  ∃ v ts, e = .returned (.tuple #[.int .i64 ((r.1 : Nat) : Int), v, .int .i64 ((r.2.2.1 : Nat) : Int), .int .i64 ((r.2.2.2 : Nat) : Int)]) ∧ OwnF w' w.heap.size v ts ∧ ts.map (·.1) = r.2.1 ∧ Below w.heap.size w w'
theorem RdPost.no (er : Nat) {w w' : World} (hb : Below w.heap.size w w') : RdPost (0, [], 0, er) w (.returned (.tuple #[.int .i64 0, .slice none 0 0, .int .i64 0, .int .i64 (er : Int)])) w' :=
  ⟨_, [], rfl, OwnF.nil_ _ _, rfl, hb⟩

set_option linter.unusedSimpArgs false in
set_option maxRecDepth 100000 in
set_option maxHeartbeats 3200000 in
theorem rsegRead_any (a : Option Addr) (len cap : Nat) (bs : List Nat) (w : World) (hs : Sl w w.heap.size a len cap bs) (hlen : len ≤ 100000) :
    Calls Tryd.prog 8 #[.slice a len cap] w fun e w' => RdPost (rd bs) w e w' := by
  have hbl := hs.length
  have hle := hs.le
  have hmx := hs.max
  unfold maxLen at hmx
  by_cases h12 : len < 12
  · have hr : rd bs = (0, [], 0, 13) := by unfold rd rh; rw [if_pos (show bs.length < 12 by omega)]; rfl
    rw [hr]
    clear hr
    have h12' : (len : Int) < 12 := by omega
    go_enter Tryd.func8, Tryd.ntmps8
    go_wp2
    refine bodyPost_ret (v := .tuple #[.int .i64 0, .slice none 0 0, .int .i64 0, .int .i64 13]) (by simp [results, Tryd.results8, go_sem]) (by rfl) ?_
    exact RdPost.no 13 (Below.refl _ _)
  · have h12' : (12 : Int) ≤ (len : Int) := by omega
    have s4 := hs.take (k := 4) (by omega)
    have c4 : ∀ w, (Instr.slice 22 (.slice a len cap) none (some (.int .i64 4)) none).run Tryd.prog w = .ok (.slice a 4 cap) w := run_cut_to (P := Tryd.prog) 22 5 Tryd.underlying22 info_u8 a len cap 4 (by omega)
    have cv := run_str (P := Tryd.prog) s4 22 5 9 Tryd.underlying22 Tryd.underlying5 Tryd.underlying9
    have hmg : strOf magic = ⟨#[71, 79, 86, 49]⟩ := by decide +kernel
    by_cases hm : bs.take 4 = magic
    · rw [hm, hmg] at cv
      have s8 := hs.take (k := 8) (by omega)
      have c8 : ∀ w, (Instr.slice 22 (.slice a len cap) none (some (.int .i64 8)) none).run Tryd.prog w = .ok (.slice a 8 cap) w := run_cut_to (P := Tryd.prog) 22 5 Tryd.underlying22 info_u8 a len cap 8 (by omega)
      have m8 := hs.mid (j := 8) (k := 12) (by omega) (by omega)
      rw [List.drop_take] at m8
      have d8 : ∀ w, (Instr.slice 22 (.slice a len cap) (some (.int .i64 8)) (some (.int .i64 12)) none).run Tryd.prog w = .ok (.slice (fromA a cap 8) 4 (cap - 8)) w := run_cut_mid (P := Tryd.prog) 22 5 Tryd.underlying22 info_u8 a len cap 8 12 (by omega) (by omega)
      have m4 := hs.mid (j := 4) (k := 8) (by omega) (by omega)
      rw [List.drop_take] at m4
      have d4 : ∀ w, (Instr.slice 22 (.slice a len cap) (some (.int .i64 4)) (some (.int .i64 8)) none).run Tryd.prog w = .ok (.slice (fromA a cap 4) 4 (cap - 4)) w := run_cut_mid (P := Tryd.prog) 22 5 Tryd.underlying22 info_u8 a len cap 4 8 (by omega) (by omega)
      have f12 := hs.from_ (k := 12) (by omega)
      have d12 : ∀ w, (Instr.slice 22 (.slice a len cap) (some (.int .i64 12)) none none).run Tryd.prog w = .ok (.slice (fromA a cap 12) (len - 12) (cap - 12)) w := run_cut_from (P := Tryd.prog) 22 5 Tryd.underlying22 info_u8 a len cap 12 (by omega)
      generalize fromA a cap 8 = a8 at m8 d8
      generalize cap - 8 = k8 at m8 d8
      generalize fromA a cap 4 = a4 at m4 d4
      generalize cap - 4 = k4 at m4 d4
      generalize fromA a cap 12 = a2 at f12 d12
      generalize cap - 12 = k2 at f12 d12
      generalize hl2 : len - 12 = l2 at f12 d12
      have RM := Lib.hid (fun (w' : World) (hb : Below w.heap.size w w') => rread_any a8 4 k8 _ w' ((m8.below hb (Nat.le_refl _)).more hb.size) (by decide))
      have RO := Lib.hid (fun (w' : World) (hb : Below w.heap.size w w') => rof_any a 8 cap _ w' ((s8.below hb (Nat.le_refl _)).more hb.size))
      have R4 := Lib.hid (fun (w' : World) (hb : Below w.heap.size w w') => rread_any a4 4 k4 _ w' ((m4.below hb (Nat.le_refl _)).more hb.size) (by decide))
      have hv8 := val4_lt hs.byte 8
      have hv4 := val4_lt hs.byte 4
      have hzs := more_lt 0 (bs.take 8)
      have Hr : Hid (rh bs = if val ((bs.drop 8).take 4) ≠ more 0 (bs.take 8) then (0, 14) else if 1073741824 < val ((bs.drop 4).take 4) then (0, 12) else (val ((bs.drop 4).take 4), 0)) := by
        show _ = _; unfold rh; rw [if_neg (by omega), if_neg (by rw [hm]; exact fun h => h rfl)]
      have Hrd : Hid (rd bs = if (rh bs).2 ≠ 0 then (0, [], 0, (rh bs).2) else ((rh bs).1, (scan (bs.drop 12) ((rh bs).1 : Int)).1, 12 + (scan (bs.drop 12) ((rh bs).1 : Int)).2, 0)) := rfl
      have SC := Lib.hid (fun (first : Int) (w' : World) (hb : Below w.heap.size w w') => rscan_any a2 l2 k2 (bs.drop 12) first w' ((f12.below hb (Nat.le_refl _)).more hb.size) (by omega))
      have hsl : Hid (∀ first : Int, (scan (bs.drop 12) first).2 ≤ 100000) := fun first => by
        have := scan_le (bs.length + 1) (bs.drop 12) first (by rw [List.length_drop]; omega)
        rw [List.length_drop] at this
        omega
      generalize rd bs = r at Hrd ⊢
      generalize rh bs = r0 at Hr Hrd
      simp only [show 12 - 8 = 4 from rfl, show 8 - 4 = 4 from rfl] at RM R4
      generalize val ((bs.drop 8).take 4) = z8 at RM Hr hv8
      generalize val ((bs.drop 4).take 4) = z4 at R4 Hr hv4
      generalize more 0 (bs.take 8) = zs at RO Hr hzs
      clear f12 m8 m4 s8 s4 hs hm hmg hl2
      have hwz : IntKind.i64.wrap (z4 : Int) = (z4 : Int) := by rw [IntKind.wrap_i64]; omega
      have hwzs : IntKind.u64.wrap (zs : Int) = (zs : Int) := by rw [IntKind.wrap_u64]; omega
      by_cases h8 : z8 = zs
      · subst h8
        by_cases h30 : z4 ≤ 1073741824
        · have hr0 := Hr.out
          rw [if_neg (by simp), if_neg (by omega)] at hr0
          have hr := Hrd.out
          rw [hr0, if_neg (by simp)] at hr
          rw [hr]
          clear hr hr0 Hr Hrd
          have h30' : (z4 : Int) ≤ 1073741824 := by omega
          have hsl := hsl.out (z4 : Int)
          have SC := Lib.hid (SC.out (z4 : Int))
          generalize scan (bs.drop 12) (z4 : Int) = sc at SC hsl
          obtain ⟨fs, n⟩ := sc
          simp only at SC hsl ⊢
          have hwn : IntKind.i64.wrap (12 + (n : Int)) = 12 + (n : Int) := by rw [IntKind.wrap_i64]; omega
          go_enter Tryd.func8, Tryd.ntmps8
          go_wp2_with fail
          refine wp_region_held_drew (S := fun w' => Below w.heap.size w w') (by kernel_rfl) (Below.drew (Below.refl _ _)) (fun hHeld => ?_)
          refine wpAnyH_take (i := 0) (v := ?_) rfl (by kernel_rfl) (by kernel_rfl) (by kernel_rfl) (fun _ _ _ h => h) (Or.inl ⟨by rfl, ?_⟩) (by assumption) ?_
          rotate_left
          · intro w hSw
            (try dsimp only at hSw)
            go_simp
            all_goals with_reducible rfl
          try simp only [Act.put, List.getElem_toArray, List.getElem_cons_succ, List.getElem_cons_zero, List.setIfInBounds_toArray, List.set_cons_zero, List.set_cons_succ]
          refine wpAnyH_take (i := 1) (v := ?_) rfl (by kernel_rfl) (by kernel_rfl) (by kernel_rfl) (fun _ _ _ h => h) (Or.inl ⟨by rfl, ?_⟩) (by assumption) ?_
          rotate_left
          · intro w hSw
            (try dsimp only at hSw)
            go_simp
            all_goals with_reducible rfl
          try simp only [Act.put, List.getElem_toArray, List.getElem_cons_succ, List.getElem_cons_zero, List.setIfInBounds_toArray, List.set_cons_zero, List.set_cons_succ]
          refine take_first (i := 2) rfl (by kernel_rfl) (by kernel_rfl) (by kernel_rfl) (fun _ _ _ h => h) (GivesIf.call (by rfl) (fun w => ?_) (fun w hS => RM.out w hS)) (by assumption) ?_
          · go_simp
            all_goals with_reducible rfl
          try simp only [Act.put, List.getElem_toArray, List.getElem_cons_succ, List.getElem_cons_zero, List.setIfInBounds_toArray, List.set_cons_zero, List.set_cons_succ]
          refine wpAnyH_take (i := 3) (v := ?_) rfl (by kernel_rfl) (by kernel_rfl) (by kernel_rfl) (fun _ _ _ h => h) (Or.inl ⟨by rfl, ?_⟩) (by assumption) ?_
          rotate_left
          · intro w hSw
            (try dsimp only at hSw)
            go_simp
            all_goals with_reducible rfl
          try simp only [Act.put, List.getElem_toArray, List.getElem_cons_succ, List.getElem_cons_zero, List.setIfInBounds_toArray, List.set_cons_zero, List.set_cons_succ]
          refine wpAnyH_take (i := 4) (v := ?_) rfl (by kernel_rfl) (by kernel_rfl) (by kernel_rfl) (fun _ _ _ h => h) (Or.inl ⟨by rfl, ?_⟩) (by assumption) ?_
          rotate_left
          · intro w hSw
            (try dsimp only at hSw)
            go_simp
            all_goals with_reducible rfl
          try simp only [Act.put, List.getElem_toArray, List.getElem_cons_succ, List.getElem_cons_zero, List.setIfInBounds_toArray, List.set_cons_zero, List.set_cons_succ]
          refine take_first (i := 5) rfl (by kernel_rfl) (by kernel_rfl) (by kernel_rfl) (fun _ _ _ h => h) (GivesIf.call (by rfl) (fun w => ?_) (fun w hS => RO.out w hS)) (by assumption) ?_
          · go_simp
            all_goals with_reducible rfl
          try simp only [Act.put, List.getElem_toArray, List.getElem_cons_succ, List.getElem_cons_zero, List.setIfInBounds_toArray, List.set_cons_zero, List.set_cons_succ]
          refine wpAnyH_take (i := 6) (v := ?_) rfl (by kernel_rfl) (by kernel_rfl) (by kernel_rfl) (fun _ _ _ h => h) (Or.inl ⟨by rfl, ?_⟩) (by assumption) ?_
          rotate_left
          · intro w hSw
            (try dsimp only at hSw)
            go_simp
            all_goals with_reducible rfl
          try simp only [Act.put, List.getElem_toArray, List.getElem_cons_succ, List.getElem_cons_zero, List.setIfInBounds_toArray, List.set_cons_zero, List.set_cons_succ]
          refine wpAnyH_take (i := 7) (v := ?_) rfl (by kernel_rfl) (by kernel_rfl) (by kernel_rfl) (fun _ _ _ h => h) (Or.inl ⟨by rfl, ?_⟩) (by assumption) ?_
          rotate_left
          · intro w hSw
            (try dsimp only at hSw)
            go_simp
            all_goals with_reducible rfl
          try simp only [Act.put, List.getElem_toArray, List.getElem_cons_succ, List.getElem_cons_zero, List.setIfInBounds_toArray, List.set_cons_zero, List.set_cons_succ]
          refine wpAnyH_done (by kernel_rfl) ?_ _
          clear hHeld RM RO
          have hB1 : Below w.heap.size w w.drew := Below.drew (Below.refl _ _)
          go_wp2_with (first
            | (go_at_call 22; refine (R4.out _ hB1).mono ?_; rintro e w1 ⟨rfl, rfl⟩)
            | (go_at_call 24; refine (SC.out _ hB1).mono ?_; rintro e w2 ⟨v, ts, rfl, ho, hts, hb2⟩; have H := Lib.hid (And.intro (ho.mono hB1.size) (And.intro hts (hB1.trans (hb2.mono hB1.size)))); clear ho hts hb2))
          refine bodyPost_ret (v := .tuple #[.int .i64 (z4 : Int), v, .int .i64 (12 + (n : Int)), .int .i64 0]) (by simp [results, Tryd.results8, go_sem]) (by rfl) ?_
          exact ⟨v, ts, rfl, H.out.1, H.out.2.1, H.out.2.2⟩
        · have hr0 := Hr.out
          rw [if_neg (by simp), if_pos (by omega)] at hr0
          have hr := Hrd.out
          rw [hr0, if_pos (by simp)] at hr
          rw [hr]
          clear hr hr0 Hr Hrd SC hsl
          have h30' : (1073741824 : Int) < (z4 : Int) := by omega
          go_enter Tryd.func8, Tryd.ntmps8
          go_wp2_with fail
          refine wp_region_held_drew (S := fun w' => Below w.heap.size w w') (by kernel_rfl) (Below.drew (Below.refl _ _)) (fun hHeld => ?_)
          refine wpAnyH_take (i := 0) (v := ?_) rfl (by kernel_rfl) (by kernel_rfl) (by kernel_rfl) (fun _ _ _ h => h) (Or.inl ⟨by rfl, ?_⟩) (by assumption) ?_
          rotate_left
          · intro w hSw
            (try dsimp only at hSw)
            go_simp
            all_goals with_reducible rfl
          try simp only [Act.put, List.getElem_toArray, List.getElem_cons_succ, List.getElem_cons_zero, List.setIfInBounds_toArray, List.set_cons_zero, List.set_cons_succ]
          refine wpAnyH_take (i := 1) (v := ?_) rfl (by kernel_rfl) (by kernel_rfl) (by kernel_rfl) (fun _ _ _ h => h) (Or.inl ⟨by rfl, ?_⟩) (by assumption) ?_
          rotate_left
          · intro w hSw
            (try dsimp only at hSw)
            go_simp
            all_goals with_reducible rfl
          try simp only [Act.put, List.getElem_toArray, List.getElem_cons_succ, List.getElem_cons_zero, List.setIfInBounds_toArray, List.set_cons_zero, List.set_cons_succ]
          refine take_first (i := 2) rfl (by kernel_rfl) (by kernel_rfl) (by kernel_rfl) (fun _ _ _ h => h) (GivesIf.call (by rfl) (fun w => ?_) (fun w hS => RM.out w hS)) (by assumption) ?_
          · go_simp
            all_goals with_reducible rfl
          try simp only [Act.put, List.getElem_toArray, List.getElem_cons_succ, List.getElem_cons_zero, List.setIfInBounds_toArray, List.set_cons_zero, List.set_cons_succ]
          refine wpAnyH_take (i := 3) (v := ?_) rfl (by kernel_rfl) (by kernel_rfl) (by kernel_rfl) (fun _ _ _ h => h) (Or.inl ⟨by rfl, ?_⟩) (by assumption) ?_
          rotate_left
          · intro w hSw
            (try dsimp only at hSw)
            go_simp
            all_goals with_reducible rfl
          try simp only [Act.put, List.getElem_toArray, List.getElem_cons_succ, List.getElem_cons_zero, List.setIfInBounds_toArray, List.set_cons_zero, List.set_cons_succ]
          refine wpAnyH_take (i := 4) (v := ?_) rfl (by kernel_rfl) (by kernel_rfl) (by kernel_rfl) (fun _ _ _ h => h) (Or.inl ⟨by rfl, ?_⟩) (by assumption) ?_
          rotate_left
          · intro w hSw
            (try dsimp only at hSw)
            go_simp
            all_goals with_reducible rfl
          try simp only [Act.put, List.getElem_toArray, List.getElem_cons_succ, List.getElem_cons_zero, List.setIfInBounds_toArray, List.set_cons_zero, List.set_cons_succ]
          refine take_first (i := 5) rfl (by kernel_rfl) (by kernel_rfl) (by kernel_rfl) (fun _ _ _ h => h) (GivesIf.call (by rfl) (fun w => ?_) (fun w hS => RO.out w hS)) (by assumption) ?_
          · go_simp
            all_goals with_reducible rfl
          try simp only [Act.put, List.getElem_toArray, List.getElem_cons_succ, List.getElem_cons_zero, List.setIfInBounds_toArray, List.set_cons_zero, List.set_cons_succ]
          refine wpAnyH_take (i := 6) (v := ?_) rfl (by kernel_rfl) (by kernel_rfl) (by kernel_rfl) (fun _ _ _ h => h) (Or.inl ⟨by rfl, ?_⟩) (by assumption) ?_
          rotate_left
          · intro w hSw
            (try dsimp only at hSw)
            go_simp
            all_goals with_reducible rfl
          try simp only [Act.put, List.getElem_toArray, List.getElem_cons_succ, List.getElem_cons_zero, List.setIfInBounds_toArray, List.set_cons_zero, List.set_cons_succ]
          refine wpAnyH_take (i := 7) (v := ?_) rfl (by kernel_rfl) (by kernel_rfl) (by kernel_rfl) (fun _ _ _ h => h) (Or.inl ⟨by rfl, ?_⟩) (by assumption) ?_
          rotate_left
          · intro w hSw
            (try dsimp only at hSw)
            go_simp
            all_goals with_reducible rfl
          try simp only [Act.put, List.getElem_toArray, List.getElem_cons_succ, List.getElem_cons_zero, List.setIfInBounds_toArray, List.set_cons_zero, List.set_cons_succ]
          refine wpAnyH_done (by kernel_rfl) ?_ _
          clear hHeld RM RO
          have hB1 : Below w.heap.size w w.drew := Below.drew (Below.refl _ _)
          go_wp2_with (go_at_call 22; refine (R4.out _ hB1).mono ?_; rintro e w1 ⟨rfl, rfl⟩)
          refine bodyPost_ret (v := .tuple #[.int .i64 0, .slice none 0 0, .int .i64 0, .int .i64 12]) (by simp [results, Tryd.results8, go_sem]) (by rfl) ?_
          exact RdPost.no 12 hB1
      · have hr0 := Hr.out
        rw [if_pos h8] at hr0
        have hr := Hrd.out
        rw [hr0, if_pos (by simp)] at hr
        rw [hr]
        clear hr hr0 Hr Hrd SC hsl
        have h8' : ((z8 : Int) != (zs : Int)) = true := by simp; omega
        go_enter Tryd.func8, Tryd.ntmps8
        go_wp2_with fail
        refine wp_region_held_drew (S := fun w' => Below w.heap.size w w') (by kernel_rfl) (Below.drew (Below.refl _ _)) (fun hHeld => ?_)
        refine wpAnyH_take (i := 0) (v := ?_) rfl (by kernel_rfl) (by kernel_rfl) (by kernel_rfl) (fun _ _ _ h => h) (Or.inl ⟨by rfl, ?_⟩) (by assumption) ?_
        rotate_left
        · intro w hSw
          (try dsimp only at hSw)
          go_simp
          all_goals with_reducible rfl
        try simp only [Act.put, List.getElem_toArray, List.getElem_cons_succ, List.getElem_cons_zero, List.setIfInBounds_toArray, List.set_cons_zero, List.set_cons_succ]
        refine wpAnyH_take (i := 1) (v := ?_) rfl (by kernel_rfl) (by kernel_rfl) (by kernel_rfl) (fun _ _ _ h => h) (Or.inl ⟨by rfl, ?_⟩) (by assumption) ?_
        rotate_left
        · intro w hSw
          (try dsimp only at hSw)
          go_simp
          all_goals with_reducible rfl
        try simp only [Act.put, List.getElem_toArray, List.getElem_cons_succ, List.getElem_cons_zero, List.setIfInBounds_toArray, List.set_cons_zero, List.set_cons_succ]
        refine take_first (i := 2) rfl (by kernel_rfl) (by kernel_rfl) (by kernel_rfl) (fun _ _ _ h => h) (GivesIf.call (by rfl) (fun w => ?_) (fun w hS => RM.out w hS)) (by assumption) ?_
        · go_simp
          all_goals with_reducible rfl
        try simp only [Act.put, List.getElem_toArray, List.getElem_cons_succ, List.getElem_cons_zero, List.setIfInBounds_toArray, List.set_cons_zero, List.set_cons_succ]
        refine wpAnyH_take (i := 3) (v := ?_) rfl (by kernel_rfl) (by kernel_rfl) (by kernel_rfl) (fun _ _ _ h => h) (Or.inl ⟨by rfl, ?_⟩) (by assumption) ?_
        rotate_left
        · intro w hSw
          (try dsimp only at hSw)
          go_simp
          all_goals with_reducible rfl
        try simp only [Act.put, List.getElem_toArray, List.getElem_cons_succ, List.getElem_cons_zero, List.setIfInBounds_toArray, List.set_cons_zero, List.set_cons_succ]
        refine wpAnyH_take (i := 4) (v := ?_) rfl (by kernel_rfl) (by kernel_rfl) (by kernel_rfl) (fun _ _ _ h => h) (Or.inl ⟨by rfl, ?_⟩) (by assumption) ?_
        rotate_left
        · intro w hSw
          (try dsimp only at hSw)
          go_simp
          all_goals with_reducible rfl
        try simp only [Act.put, List.getElem_toArray, List.getElem_cons_succ, List.getElem_cons_zero, List.setIfInBounds_toArray, List.set_cons_zero, List.set_cons_succ]
        refine take_first (i := 5) rfl (by kernel_rfl) (by kernel_rfl) (by kernel_rfl) (fun _ _ _ h => h) (GivesIf.call (by rfl) (fun w => ?_) (fun w hS => RO.out w hS)) (by assumption) ?_
        · go_simp
          all_goals with_reducible rfl
        try simp only [Act.put, List.getElem_toArray, List.getElem_cons_succ, List.getElem_cons_zero, List.setIfInBounds_toArray, List.set_cons_zero, List.set_cons_succ]
        refine wpAnyH_take (i := 6) (v := ?_) rfl (by kernel_rfl) (by kernel_rfl) (by kernel_rfl) (fun _ _ _ h => h) (Or.inl ⟨by rfl, ?_⟩) (by assumption) ?_
        rotate_left
        · intro w hSw
          (try dsimp only at hSw)
          go_simp
          all_goals with_reducible rfl
        try simp only [Act.put, List.getElem_toArray, List.getElem_cons_succ, List.getElem_cons_zero, List.setIfInBounds_toArray, List.set_cons_zero, List.set_cons_succ]
        refine wpAnyH_take (i := 7) (v := ?_) rfl (by kernel_rfl) (by kernel_rfl) (by kernel_rfl) (fun _ _ _ h => h) (Or.inl ⟨by rfl, ?_⟩) (by assumption) ?_
        rotate_left
        · intro w hSw
          (try dsimp only at hSw)
          go_simp
          all_goals with_reducible rfl
        try simp only [Act.put, List.getElem_toArray, List.getElem_cons_succ, List.getElem_cons_zero, List.setIfInBounds_toArray, List.set_cons_zero, List.set_cons_succ]
        refine wpAnyH_done (by kernel_rfl) ?_ _
        clear hHeld RM RO R4
        have hB1 : Below w.heap.size w w.drew := Below.drew (Below.refl _ _)
        go_wp2
        refine bodyPost_ret (v := .tuple #[.int .i64 0, .slice none 0 0, .int .i64 0, .int .i64 14]) (by simp [results, Tryd.results8, go_sem]) (by rfl) ?_
        exact RdPost.no 14 hB1
    · have hr : rd bs = (0, [], 0, 12) := by unfold rd rh; rw [if_neg (show ¬ bs.length < 12 by omega), if_pos hm]; rfl
      rw [hr]
      clear hr
      have hne : strOf (bs.take 4) ≠ ⟨#[71, 79, 86, 49]⟩ := fun h => hm (by
        rw [← hmg] at h
        exact (strOf_eq s4.byte (by decide)).1 h)
      have hnt := ne_toList hne
      rw [show (⟨#[71, 79, 86, 49]⟩ : ByteArray).toList = [71, 79, 86, 49] from by rw [ByteArray.toList_eq]] at hnt
      generalize strOf (bs.take 4) = s at cv hnt
      clear hne hm hmg s4
      go_enter Tryd.func8, Tryd.ntmps8
      go_wp2
      refine bodyPost_ret (v := .tuple #[.int .i64 0, .slice none 0 0, .int .i64 0, .int .i64 12]) (by simp [results, Tryd.results8, go_sem]) (by rfl) ?_
      exact RdPost.no 12 (Below.refl _ _)
end Go.Proofs.YtiiellclnmakpaaDoor
