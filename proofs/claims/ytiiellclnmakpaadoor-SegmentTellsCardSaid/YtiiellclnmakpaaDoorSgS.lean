/- Contracts of the program's segment: readHead, Read. -/
import Derived.Test.YtiiellclnmakpaaDoorSgR
namespace Go.Proofs.YtiiellclnmakpaaDoor
open Go.RowKit
open Crc Frm

/-- What a head tells, and what it is wrong by. -/
def rh (bs : List Nat) : Nat × Nat :=
  if bs.length < 12 then (0, 13)
  else if bs.take 4 ≠ magic then (0, 12)
  else if val ((bs.drop 8).take 4) ≠ more 0 (bs.take 8) then (0, 14)
  else if 1073741824 < val ((bs.drop 4).take 4) then (0, 12)
  else (val ((bs.drop 4).take 4), 0)
theorem val4_lt {bs : List Nat} (hb : ∀ c ∈ bs, c < 256) (k : Nat) : val ((bs.drop k).take 4) < 4294967296 := by
  have h1 := val_lt ((bs.drop k).take 4) (fun c hc => hb c (List.mem_of_mem_drop (List.mem_of_mem_take hc)))
  have h2 : ((bs.drop k).take 4).length ≤ 4 := List.length_take_le _ _
  have h3 := Nat.pow_le_pow_right (n := 256) (by decide) h2
  omega

set_option linter.unusedSimpArgs false in
set_option maxRecDepth 100000 in
set_option maxHeartbeats 1600000 in
theorem readHead_any (a : Option Addr) (len cap : Nat) (bs : List Nat) (w : World) (hs : Sl w w.heap.size a len cap bs) :
    Calls Tryd.prog 20 #[.slice a len cap] w fun e w' => e = .returned (.tuple #[.int .i64 (((rh bs).1 : Nat) : Int), .int .i64 (((rh bs).2 : Nat) : Int)]) ∧ Below w.heap.size w w' := by
  have hbl := hs.length
  have hle := hs.le
  have hmx := hs.max
  unfold maxLen at hmx
  by_cases h12 : len < 12
  · have hr : rh bs = (0, 13) := by unfold rh; rw [if_pos (by omega)]
    rw [hr]
    have h12' : (len : Int) < 12 := by omega
    go_enter Tryd.func20, Tryd.ntmps20
    go_wp2
    go_ret2
    exact ⟨rfl, Below.refl _ _⟩
  · have h12' : (12 : Int) ≤ (len : Int) := by omega
    have s4 := hs.take (k := 4) (by omega)
    have c4 : ∀ w, (Instr.slice 22 (.slice a len cap) none (some (.int .i64 4)) none).run Tryd.prog w = .ok (.slice a 4 cap) w := run_cut_to (P := Tryd.prog) 22 5 Tryd.underlying22 info_u8 a len cap 4 (by omega)
    have cv := run_str (P := Tryd.prog) s4 22 5 9 Tryd.underlying22 Tryd.underlying5 Tryd.underlying9
    have hmg : strOf magic = ⟨#[71, 79, 86, 49]⟩ := by decide +kernel
    by_cases hm : bs.take 4 = magic
    · rw [hm, hmg] at cv
      have s8 := hs.take (k := 8) (by omega)
      have c8 : ∀ w, (Instr.slice 22 (.slice a len cap) none (some (.int .i64 8)) none).run Tryd.prog w = .ok (.slice a 8 cap) w := run_cut_to (P := Tryd.prog) 22 5 Tryd.underlying22 info_u8 a len cap 8 (by omega)
      have f8 := hs.from_ (k := 8) (by omega)
      have d8 : ∀ w, (Instr.slice 22 (.slice a len cap) (some (.int .i64 8)) none none).run Tryd.prog w = .ok (.slice (fromA a cap 8) (len - 8) (cap - 8)) w := run_cut_from (P := Tryd.prog) 22 5 Tryd.underlying22 info_u8 a len cap 8 (by omega)
      have f4 := hs.from_ (k := 4) (by omega)
      have d4 : ∀ w, (Instr.slice 22 (.slice a len cap) (some (.int .i64 4)) none none).run Tryd.prog w = .ok (.slice (fromA a cap 4) (len - 4) (cap - 4)) w := run_cut_from (P := Tryd.prog) 22 5 Tryd.underlying22 info_u8 a len cap 4 (by omega)
      generalize fromA a cap 8 = a8 at f8 d8
      generalize cap - 8 = k8 at f8 d8
      generalize hl8 : len - 8 = l8 at f8 d8
      generalize fromA a cap 4 = a4 at f4 d4
      generalize cap - 4 = k4 at f4 d4
      generalize hl4 : len - 4 = l4 at f4 d4
      have R8 := Lib.hid (sread_any a8 l8 k8 _ w.drew f8.drew (by omega))
      have OF := Lib.hid (fun (w' : World) (hb : Below w.heap.size w w') => of_any a 8 cap _ w' ((s8.below hb (Nat.le_refl _)).more hb.size))
      have R4 := Lib.hid (fun (w' : World) (hb : Below w.heap.size w w') => sread_any a4 l4 k4 _ w' ((f4.below hb (Nat.le_refl _)).more hb.size) (by omega))
      have hv4 := val4_lt hs.byte 4
      have Hr : Hid (rh bs = if val ((bs.drop 8).take 4) ≠ more 0 (bs.take 8) then (0, 14) else if 1073741824 < val ((bs.drop 4).take 4) then (0, 12) else (val ((bs.drop 4).take 4), 0)) := by
        show _ = _; unfold rh; rw [if_neg (by omega), if_neg (by rw [hm]; exact fun h => h rfl)]
      generalize rh bs = r at Hr ⊢
      generalize val ((bs.drop 8).take 4) = z8 at R8 Hr
      generalize val ((bs.drop 4).take 4) = z4 at R4 Hr hv4
      generalize more 0 (bs.take 8) = zs at OF Hr
      clear f8 f4 s8 s4 hl8 hl4 hs hm hmg
      by_cases h8 : z8 = zs
      · subst h8
        have r1 : ((z8 : Int) != (z8 : Int)) = false := by simp
        have hwz : IntKind.i64.wrap (z4 : Int) = (z4 : Int) := by rw [IntKind.wrap_i64]; omega
        by_cases h30 : z4 ≤ 1073741824
        · have hf := Lib.hid (first_yes (z4 : Int) (by omega) (by omega))
          have hr := Hr.out
          rw [if_neg (by simp), if_neg (by omega)] at hr
          rw [hr]
          clear hr Hr
          go_enter Tryd.func20, Tryd.ntmps20
          go_wp2_with fail
          refine wp_region_held_drew (S := fun w' => Below w.heap.size w w') (by kernel_rfl) (Below.drew (Below.refl _ _)) (fun hHeld => ?_)
          refine wpAnyH_take (i := 0) (v := ?_) rfl (by kernel_rfl) (by kernel_rfl) (by kernel_rfl) (fun _ _ _ h => h) (Or.inl ⟨by rfl, ?_⟩) (by assumption) ?_
          rotate_left
          · intro w hSw
            (try dsimp only at hSw)
            go_simp
            all_goals with_reducible rfl
          try simp only [Act.put, List.getElem_toArray, List.getElem_cons_succ, List.getElem_cons_zero, List.setIfInBounds_toArray, List.set_cons_zero, List.set_cons_succ]
          refine wpAnyH_take (i := 1) (v := ?_) rfl (by kernel_rfl) (by kernel_rfl) (by kernel_rfl) (fun _ _ _ h => h) (Or.inl ⟨by rfl, ?_⟩) (by assumption) ?_
          rotate_left
          · intro w hSw
            (try dsimp only at hSw)
            go_simp
            all_goals with_reducible rfl
          try simp only [Act.put, List.getElem_toArray, List.getElem_cons_succ, List.getElem_cons_zero, List.setIfInBounds_toArray, List.set_cons_zero, List.set_cons_succ]
          refine wpAnyH_take (i := 3) (v := ?_) rfl (by kernel_rfl) (by kernel_rfl) (by kernel_rfl) (fun _ _ _ h => h) (Or.inl ⟨by rfl, ?_⟩) (by assumption) ?_
          rotate_left
          · intro w hSw
            (try dsimp only at hSw)
            go_simp
            all_goals with_reducible rfl
          try simp only [Act.put, List.getElem_toArray, List.getElem_cons_succ, List.getElem_cons_zero, List.setIfInBounds_toArray, List.set_cons_zero, List.set_cons_succ]
          refine wpAnyH_take (i := 4) (v := ?_) rfl (by kernel_rfl) (by kernel_rfl) (by kernel_rfl) (fun _ _ _ h => h) (Or.inl ⟨by rfl, ?_⟩) (by assumption) ?_
          rotate_left
          · intro w hSw
            (try dsimp only at hSw)
            go_simp
            all_goals with_reducible rfl
          try simp only [Act.put, List.getElem_toArray, List.getElem_cons_succ, List.getElem_cons_zero, List.setIfInBounds_toArray, List.set_cons_zero, List.set_cons_succ]
          refine wpAnyH_ready (rs := [2]) (by kernel_rfl) (by simp) ?_
          refine AllReadyH.cons rfl (fun K hK => ?_) AllReadyH.nil
          rw [if_pos (by rfl)]
          go_simp
          go_at_call 37
          refine R8.out.mono ?_
          rintro e w2 ⟨rfl, hb2⟩
          have hB2 : Below w.heap.size w w2 := below_drew_of hb2
          clear hb2
          refine hK.out _ _ ?_ (fun hHeld => ?_)
          · exact hB2
          clear hK K
          try simp only [Act.put, List.getElem_toArray, List.getElem_cons_succ, List.getElem_cons_zero, List.setIfInBounds_toArray, List.set_cons_zero, List.set_cons_succ]
          refine wpAnyH_ready (rs := [5]) (by kernel_rfl) (by simp) ?_
          refine AllReadyH.cons rfl (fun K hK => ?_) AllReadyH.nil
          rw [if_pos (by rfl)]
          go_simp
          go_at_call 29
          refine (OF.out _ hB2).mono ?_
          rintro e w3 ⟨rfl, hb3⟩
          have hB3 := hB2.trans (hb3.mono hB2.size)
          clear hb3
          refine hK.out _ _ ?_ (fun hHeld => ?_)
          · exact hB3
          clear hK K
          try simp only [Act.put, List.getElem_toArray, List.getElem_cons_succ, List.getElem_cons_zero, List.setIfInBounds_toArray, List.set_cons_zero, List.set_cons_succ]
          refine wpAnyH_take (i := 6) (v := ?_) rfl (by kernel_rfl) (by kernel_rfl) (by kernel_rfl) (fun _ _ _ h => h) (Or.inl ⟨by rfl, ?_⟩) (by assumption) ?_
          rotate_left
          · intro w hSw
            (try dsimp only at hSw)
            go_simp
            all_goals with_reducible rfl
          try simp only [Act.put, List.getElem_toArray, List.getElem_cons_succ, List.getElem_cons_zero, List.setIfInBounds_toArray, List.set_cons_zero, List.set_cons_succ]
          refine wpAnyH_done (by kernel_rfl) ?_ _
          clear hB2 hHeld OF R8
          go_wp2_with (first
            | (go_at_call 37; refine (R4.out _ hB3).mono ?_; rintro e w4 ⟨rfl, hb4⟩)
            | (go_at_call 25; refine (hf.out _).mono ?_; rintro e w5 ⟨rfl, rfl⟩))
          go_ret2
          exact ⟨rfl, hB3.trans (hb4.mono hB3.size)⟩
        · have hf := Lib.hid (first_no (z4 : Int) (by omega))
          have hr := Hr.out
          rw [if_neg (by simp), if_pos (by omega)] at hr
          rw [hr]
          clear hr Hr
          go_enter Tryd.func20, Tryd.ntmps20
          go_wp2_with fail
          refine wp_region_held_drew (S := fun w' => Below w.heap.size w w') (by kernel_rfl) (Below.drew (Below.refl _ _)) (fun hHeld => ?_)
          refine wpAnyH_take (i := 0) (v := ?_) rfl (by kernel_rfl) (by kernel_rfl) (by kernel_rfl) (fun _ _ _ h => h) (Or.inl ⟨by rfl, ?_⟩) (by assumption) ?_
          rotate_left
          · intro w hSw
            (try dsimp only at hSw)
            go_simp
            all_goals with_reducible rfl
          try simp only [Act.put, List.getElem_toArray, List.getElem_cons_succ, List.getElem_cons_zero, List.setIfInBounds_toArray, List.set_cons_zero, List.set_cons_succ]
          refine wpAnyH_take (i := 1) (v := ?_) rfl (by kernel_rfl) (by kernel_rfl) (by kernel_rfl) (fun _ _ _ h => h) (Or.inl ⟨by rfl, ?_⟩) (by assumption) ?_
          rotate_left
          · intro w hSw
            (try dsimp only at hSw)
            go_simp
            all_goals with_reducible rfl
          try simp only [Act.put, List.getElem_toArray, List.getElem_cons_succ, List.getElem_cons_zero, List.setIfInBounds_toArray, List.set_cons_zero, List.set_cons_succ]
          refine wpAnyH_take (i := 3) (v := ?_) rfl (by kernel_rfl) (by kernel_rfl) (by kernel_rfl) (fun _ _ _ h => h) (Or.inl ⟨by rfl, ?_⟩) (by assumption) ?_
          rotate_left
          · intro w hSw
            (try dsimp only at hSw)
            go_simp
            all_goals with_reducible rfl
          try simp only [Act.put, List.getElem_toArray, List.getElem_cons_succ, List.getElem_cons_zero, List.setIfInBounds_toArray, List.set_cons_zero, List.set_cons_succ]
          refine wpAnyH_take (i := 4) (v := ?_) rfl (by kernel_rfl) (by kernel_rfl) (by kernel_rfl) (fun _ _ _ h => h) (Or.inl ⟨by rfl, ?_⟩) (by assumption) ?_
          rotate_left
          · intro w hSw
            (try dsimp only at hSw)
            go_simp
            all_goals with_reducible rfl
          try simp only [Act.put, List.getElem_toArray, List.getElem_cons_succ, List.getElem_cons_zero, List.setIfInBounds_toArray, List.set_cons_zero, List.set_cons_succ]
          refine wpAnyH_ready (rs := [2]) (by kernel_rfl) (by simp) ?_
          refine AllReadyH.cons rfl (fun K hK => ?_) AllReadyH.nil
          rw [if_pos (by rfl)]
          go_simp
          go_at_call 37
          refine R8.out.mono ?_
          rintro e w2 ⟨rfl, hb2⟩
          have hB2 : Below w.heap.size w w2 := below_drew_of hb2
          clear hb2
          refine hK.out _ _ ?_ (fun hHeld => ?_)
          · exact hB2
          clear hK K
          try simp only [Act.put, List.getElem_toArray, List.getElem_cons_succ, List.getElem_cons_zero, List.setIfInBounds_toArray, List.set_cons_zero, List.set_cons_succ]
          refine wpAnyH_ready (rs := [5]) (by kernel_rfl) (by simp) ?_
          refine AllReadyH.cons rfl (fun K hK => ?_) AllReadyH.nil
          rw [if_pos (by rfl)]
          go_simp
          go_at_call 29
          refine (OF.out _ hB2).mono ?_
          rintro e w3 ⟨rfl, hb3⟩
          have hB3 := hB2.trans (hb3.mono hB2.size)
          clear hb3
          refine hK.out _ _ ?_ (fun hHeld => ?_)
          · exact hB3
          clear hK K
          try simp only [Act.put, List.getElem_toArray, List.getElem_cons_succ, List.getElem_cons_zero, List.setIfInBounds_toArray, List.set_cons_zero, List.set_cons_succ]
          refine wpAnyH_take (i := 6) (v := ?_) rfl (by kernel_rfl) (by kernel_rfl) (by kernel_rfl) (fun _ _ _ h => h) (Or.inl ⟨by rfl, ?_⟩) (by assumption) ?_
          rotate_left
          · intro w hSw
            (try dsimp only at hSw)
            go_simp
            all_goals with_reducible rfl
          try simp only [Act.put, List.getElem_toArray, List.getElem_cons_succ, List.getElem_cons_zero, List.setIfInBounds_toArray, List.set_cons_zero, List.set_cons_succ]
          refine wpAnyH_done (by kernel_rfl) ?_ _
          clear hB2 hHeld OF R8
          go_wp2_with (first
            | (go_at_call 37; refine (R4.out _ hB3).mono ?_; rintro e w4 ⟨rfl, hb4⟩)
            | (go_at_call 25; refine (hf.out _).mono ?_; rintro e w5 ⟨rfl, rfl⟩))
          go_ret2
          exact ⟨rfl, hB3.trans (hb4.mono hB3.size)⟩
      · have r1 : ((z8 : Int) != (zs : Int)) = true := by simp; omega
        have hr := Hr.out
        rw [if_pos h8] at hr
        rw [hr]
        clear hr Hr h8
        go_enter Tryd.func20, Tryd.ntmps20
        go_wp2_with fail
        refine wp_region_held_drew (S := fun w' => Below w.heap.size w w') (by kernel_rfl) (Below.drew (Below.refl _ _)) (fun hHeld => ?_)
        refine wpAnyH_take (i := 0) (v := ?_) rfl (by kernel_rfl) (by kernel_rfl) (by kernel_rfl) (fun _ _ _ h => h) (Or.inl ⟨by rfl, ?_⟩) (by assumption) ?_
        rotate_left
        · intro w hSw
          (try dsimp only at hSw)
          go_simp
          all_goals with_reducible rfl
        try simp only [Act.put, List.getElem_toArray, List.getElem_cons_succ, List.getElem_cons_zero, List.setIfInBounds_toArray, List.set_cons_zero, List.set_cons_succ]
        refine wpAnyH_take (i := 1) (v := ?_) rfl (by kernel_rfl) (by kernel_rfl) (by kernel_rfl) (fun _ _ _ h => h) (Or.inl ⟨by rfl, ?_⟩) (by assumption) ?_
        rotate_left
        · intro w hSw
          (try dsimp only at hSw)
          go_simp
          all_goals with_reducible rfl
        try simp only [Act.put, List.getElem_toArray, List.getElem_cons_succ, List.getElem_cons_zero, List.setIfInBounds_toArray, List.set_cons_zero, List.set_cons_succ]
        refine wpAnyH_take (i := 3) (v := ?_) rfl (by kernel_rfl) (by kernel_rfl) (by kernel_rfl) (fun _ _ _ h => h) (Or.inl ⟨by rfl, ?_⟩) (by assumption) ?_
        rotate_left
        · intro w hSw
          (try dsimp only at hSw)
          go_simp
          all_goals with_reducible rfl
        try simp only [Act.put, List.getElem_toArray, List.getElem_cons_succ, List.getElem_cons_zero, List.setIfInBounds_toArray, List.set_cons_zero, List.set_cons_succ]
        refine wpAnyH_take (i := 4) (v := ?_) rfl (by kernel_rfl) (by kernel_rfl) (by kernel_rfl) (fun _ _ _ h => h) (Or.inl ⟨by rfl, ?_⟩) (by assumption) ?_
        rotate_left
        · intro w hSw
          (try dsimp only at hSw)
          go_simp
          all_goals with_reducible rfl
        try simp only [Act.put, List.getElem_toArray, List.getElem_cons_succ, List.getElem_cons_zero, List.setIfInBounds_toArray, List.set_cons_zero, List.set_cons_succ]
        refine wpAnyH_ready (rs := [2]) (by kernel_rfl) (by simp) ?_
        refine AllReadyH.cons rfl (fun K hK => ?_) AllReadyH.nil
        rw [if_pos (by rfl)]
        go_simp
        go_at_call 37
        refine R8.out.mono ?_
        rintro e w2 ⟨rfl, hb2⟩
        have hB2 : Below w.heap.size w w2 := below_drew_of hb2
        clear hb2
        refine hK.out _ _ ?_ (fun hHeld => ?_)
        · exact hB2
        clear hK K
        try simp only [Act.put, List.getElem_toArray, List.getElem_cons_succ, List.getElem_cons_zero, List.setIfInBounds_toArray, List.set_cons_zero, List.set_cons_succ]
        refine wpAnyH_ready (rs := [5]) (by kernel_rfl) (by simp) ?_
        refine AllReadyH.cons rfl (fun K hK => ?_) AllReadyH.nil
        rw [if_pos (by rfl)]
        go_simp
        go_at_call 29
        refine (OF.out _ hB2).mono ?_
        rintro e w3 ⟨rfl, hb3⟩
        have hB3 := hB2.trans (hb3.mono hB2.size)
        clear hb3
        refine hK.out _ _ ?_ (fun hHeld => ?_)
        · exact hB3
        clear hK K
        try simp only [Act.put, List.getElem_toArray, List.getElem_cons_succ, List.getElem_cons_zero, List.setIfInBounds_toArray, List.set_cons_zero, List.set_cons_succ]
        refine wpAnyH_take (i := 6) (v := ?_) rfl (by kernel_rfl) (by kernel_rfl) (by kernel_rfl) (fun _ _ _ h => h) (Or.inl ⟨by rfl, ?_⟩) (by assumption) ?_
        rotate_left
        · intro w hSw
          (try dsimp only at hSw)
          go_simp
          all_goals with_reducible rfl
        try simp only [Act.put, List.getElem_toArray, List.getElem_cons_succ, List.getElem_cons_zero, List.setIfInBounds_toArray, List.set_cons_zero, List.set_cons_succ]
        refine wpAnyH_done (by kernel_rfl) ?_ _
        clear hB2 hHeld OF R8 R4
        go_wp2
        go_ret2
        exact ⟨rfl, hB3⟩
    · have hr : rh bs = (0, 12) := by unfold rh; rw [if_neg (by omega), if_pos hm]
      rw [hr]
      have hne : strOf (bs.take 4) ≠ ⟨#[71, 79, 86, 49]⟩ := by
        rw [← hmg]
        exact fun h => hm (strOf_inj s4.byte (by decide) h)
      generalize strOf (bs.take 4) = z at cv hne
      have hq : (z.toList == [71, 79, 86, 49]) = false := by
        have h := ne_toList hne
        rw [show (⟨#[71, 79, 86, 49]⟩ : ByteArray).toList = [71, 79, 86, 49] from by rw [ByteArray.toList_eq]] at h
        exact h
      clear hmg hm s4 hr hne
      go_enter Tryd.func20, Tryd.ntmps20
      go_wp2
      go_ret2
      exact ⟨rfl, Below.refl _ _⟩

/-- What Read tells. -/
def rd (bs : List Nat) : Nat × List Fr × Nat × Nat :=
  if (rh bs).2 ≠ 0 then (0, [], 0, (rh bs).2) else ((rh bs).1, (scan (bs.drop 12) ((rh bs).1 : Int)).1, 12 + (scan (bs.drop 12) ((rh bs).1 : Int)).2, 0)
theorem rh_ok (bs : List Nat) (h : (rh bs).2 = 0) : (rh bs).1 ≤ 1073741824 ∧ 12 ≤ bs.length := by
  unfold rh at *
  split at h
  · simp at h
  split at h
  · simp at h
  split at h
  · simp at h
  split at h
  · simp at h
  · rename_i h1 h2 h3 h4
    rw [if_neg h1, if_neg h2, if_neg h3, if_neg h4]
    exact ⟨by simp only; omega, by omega⟩

set_option maxRecDepth 100000 in
set_option maxHeartbeats 1600000 in
theorem segRead_any (a : Option Addr) (len cap : Nat) (bs : List Nat) (w : World) (hs : Sl w w.heap.size a len cap bs) (hlen : len ≤ 100000) :
    Calls Tryd.prog 7 #[.slice a len cap] w fun e w' => ∃ v ts, e = .returned (.tuple #[.int .i64 (((rd bs).1 : Nat) : Int), v, .int .i64 (((rd bs).2.2.1 : Nat) : Int), .int .i64 (((rd bs).2.2.2 : Nat) : Int)]) ∧ OwnF w' w.heap.size v ts ∧ ts.map (·.1) = (rd bs).2.1 ∧ Below w.heap.size w w' := by
  have hbl := hs.length
  have RH := Lib.hid (readHead_any a len cap bs w hs)
  have Hrd : Hid (rd bs = if (rh bs).2 ≠ 0 then (0, [], 0, (rh bs).2) else ((rh bs).1, (scan (bs.drop 12) ((rh bs).1 : Int)).1, 12 + (scan (bs.drop 12) ((rh bs).1 : Int)).2, 0)) := rfl
  have hok := rh_ok bs
  generalize rd bs = r at Hrd ⊢
  obtain ⟨⟨f, er⟩, hx⟩ : ∃ x, x = rh bs := ⟨_, rfl⟩
  rw [← hx] at hok RH Hrd
  clear hx
  simp only at hok RH Hrd
  by_cases h0 : er = 0
  · subst h0
    obtain ⟨hf, h12⟩ := hok rfl
    have hr := Hrd.out
    rw [if_neg (by simp)] at hr
    rw [hr]
    clear hr Hrd hok
    have h12' : (12 : Int) ≤ (len : Int) := by omega
    have f12 := hs.from_ (k := 12) (by omega)
    have d12 : ∀ w, (Instr.slice 22 (.slice a len cap) (some (.int .i64 12)) none none).run Tryd.prog w = .ok (.slice (fromA a cap 12) (len - 12) (cap - 12)) w := run_cut_from (P := Tryd.prog) 22 5 Tryd.underlying22 info_u8 a len cap 12 (by omega)
    generalize fromA a cap 12 = a2 at f12 d12
    generalize cap - 12 = k2 at f12 d12
    generalize hl2 : len - 12 = l2 at f12 d12
    have hsl : (scan (bs.drop 12) (f : Int)).2 ≤ 100000 := by
      have := scan_le (bs.length + 1) (bs.drop 12) (f : Int) (by rw [List.length_drop]; omega)
      rw [List.length_drop] at this
      omega
    have SC := Lib.hid (fun (w' : World) (hb : Below w.heap.size w w') => scan_any a2 l2 k2 (bs.drop 12) (f : Int) w' ((f12.below hb (Nat.le_refl _)).more hb.size) (by omega) (by omega) (by omega))
    generalize scan (bs.drop 12) (f : Int) = sc at SC hsl
    obtain ⟨fs, n⟩ := sc
    simp only at SC hsl ⊢
    clear f12 hl2 hs
    go_enter Tryd.func7, Tryd.ntmps7
    go_wp2_with fail
    refine RH.out.mono ?_
    rintro e w1 ⟨rfl, hb1⟩
    go_wp2_with fail
    refine (SC.out _ hb1).mono ?_
    rintro e w2 ⟨v, ts, rfl, ho, hts, hb2⟩
    have H := Lib.hid (And.intro (ho.mono hb1.size) (And.intro hts (hb1.trans (hb2.mono hb1.size))))
    clear ho hts hb2 hb1 SC RH
    have hwn : IntKind.i64.wrap (12 + (n : Int)) = 12 + (n : Int) := by rw [IntKind.wrap_i64]; omega
    go_wp2
    refine bodyPost_ret (v := .tuple #[.int .i64 (f : Int), v, .int .i64 (12 + (n : Int)), .int .i64 0]) (by simp [results, Tryd.results7, go_sem]) (by rfl) ?_
    exact ⟨v, ts, rfl, H.out.1, H.out.2.1, H.out.2.2⟩
  · have hr := Hrd.out
    rw [if_pos h0] at hr
    rw [hr]
    clear hr Hrd hok
    have r1 : ((er : Int) != 0) = true := by simp; omega
    go_enter Tryd.func7, Tryd.ntmps7
    go_wp2_with fail
    refine RH.out.mono ?_
    rintro e w1 ⟨rfl, hb1⟩
    have H := Lib.hid hb1
    clear hb1 RH
    go_wp2
    refine bodyPost_ret (v := .tuple #[.int .i64 0, .slice none 0 0, .int .i64 0, .int .i64 (er : Int)]) (by simp [results, Tryd.results7, go_sem]) (by rfl) ?_
    exact ⟨_, [], rfl, OwnF.nil_ _ _, rfl, H.out⟩
/-- Read, of bytes whose answer is known. -/
theorem segRead_of {bs : List Nat} {f : Nat} {fs : List Fr} {n er : Nat} (hr : rd bs = (f, fs, n, er)) (a : Option Addr) (len cap : Nat) (w : World) (hs : Sl w w.heap.size a len cap bs) (hlen : len ≤ 100000) :
    Calls Tryd.prog 7 #[.slice a len cap] w fun e w' => ∃ va vc, e = .returned (.tuple #[.int .i64 (f : Int), .slice va fs.length vc, .int .i64 (n : Int), .int .i64 (er : Int)]) ∧ Frs w' w'.heap.size va fs.length vc fs ∧ Below w.heap.size w w' := by
  refine (segRead_any a len cap bs w hs hlen).mono ?_
  rintro e w' ⟨v, ts, rfl, ho, hts, hb⟩
  rw [hr] at hts ⊢
  simp only at hts
  obtain ⟨va, vc, hv, hfr⟩ := ho.frs
  have hl : ts.length = fs.length := by rw [← hts, List.length_map]
  rw [hts] at hfr
  rw [hl] at hv hfr
  exact ⟨va, vc, by rw [hv], hfr, hb⟩
end Go.Proofs.YtiiellclnmakpaaDoor
