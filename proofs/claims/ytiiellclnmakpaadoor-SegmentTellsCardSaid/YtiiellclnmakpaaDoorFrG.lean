/- Contracts of the reference of frames: Get. -/
import Derived.Test.YtiiellclnmakpaaDoorFrR
import Derived.Test.YtiiellclnmakpaaDoorAp
import Derived.Deep.CutRange
import Derived.Deep.DeepCutAuto
import Derived.Shelf.Abstract
namespace Go.Proofs.YtiiellclnmakpaaDoor
open Go.RowKit
open Crc Frm

/-- What a way out with nothing leaves. -/
theorem getPost_zero {w w' : World} {e : Ending} {er : Nat} (he : e = .returned (.tuple #[.agg #[.int .i64 0, .int .i64 0, .slice none 0 0], .int .i64 0, .int .i64 (er : Int)])) (hb : Below w.heap.size w w') :
    ∃ ba bc, e = .returned (.tuple #[.agg #[.int .i64 Fr.zero.ty, .int .i64 Fr.zero.seq, .slice ba Fr.zero.body.length bc], .int .i64 ((0 : Nat) : Int), .int .i64 (er : Int)]) ∧
      Sl w' w'.heap.size ba Fr.zero.body.length bc Fr.zero.body ∧ Below w.heap.size w w' ∧ (∀ b o, ba = some ⟨b, o, none⟩ → w.heap.size ≤ b) :=
  ⟨none, 0, he, Sl.nil_, hb, fun b o h => by cases h⟩
structure GotAt (W wx : World) (p : Value) (ty sq : Int) (n : Nat) (body : List Nat) : Prop where
  ex : ∃ g2 ba bc, p = .pointer (some ⟨g2, 0, none⟩) ∧ wx.heap[g2]? = some (.cells #[.int .i64 ty, .int .i64 sq, .slice ba n bc] 36 (0, 0)) ∧ Sl wx wx.heap.size ba n bc body ∧ Below W.heap.size W wx ∧ W.heap.size ≤ g2 ∧ ∀ b o, ba = some ⟨b, o, none⟩ → W.heap.size ≤ b

theorem got_set {W w3 : World} {g n bc : Nat} {ba : Option Addr} {ty sq : Int} {body : List Nat} (hblk : w3.heap[g]? = some (.cells #[.int .i64 0, .int .i64 0, .slice none 0 0] 36 (0, 0))) (hB3 : Below W.heap.size W w3) (hg : W.heap.size ≤ g)
    (hs4 : Sl w3 w3.heap.size ba n bc body) (hbb : ∀ b o, ba = some ⟨b, o, none⟩ → W.heap.size ≤ b) (hne : 0 < n → ∀ b o, ba = some ⟨b, o, none⟩ → b ≠ g) :
    GotAt W (((w3.setCell ⟨g, 0, none⟩ (.int .i64 ty)).setCell ⟨g, 1, none⟩ (.int .i64 sq)).setCell ⟨g, 2, none⟩ (.slice ba n bc)) (.pointer (some ⟨g, 0, none⟩)) ty sq n body :=
  ⟨⟨g, ba, bc, rfl, heap_setCells_whole (cs := [Value.int .i64 0, .int .i64 0, .slice none 0 0]) [Value.int .i64 ty, .int .i64 sq, .slice ba n bc] rfl hblk,
    (((hs4.far ⟨g, 0, none⟩ _ hne).far ⟨g, 1, none⟩ _ hne).far ⟨g, 2, none⟩ _ hne).more (by simp),
    ((hB3.setCell (p := ⟨g, 0, none⟩) hg _).setCell (p := ⟨g, 1, none⟩) hg _).setCell (p := ⟨g, 2, none⟩) hg _, hg, hbb⟩⟩
theorem below_set3 {W w3 : World} {g : Nat} {v0 v1 v2 : Value} (hB3 : Below W.heap.size W w3) (hg : W.heap.size ≤ g) : Below W.heap.size W (((w3.setCell ⟨g, 0, none⟩ v0).setCell ⟨g, 1, none⟩ v1).setCell ⟨g, 2, none⟩ v2) :=
  ((hB3.setCell (p := ⟨g, 0, none⟩) hg _).setCell (p := ⟨g, 1, none⟩) hg _).setCell (p := ⟨g, 2, none⟩) hg _

set_option linter.unusedSimpArgs false in
set_option maxRecDepth 100000 in
set_option maxHeartbeats 3200000 in
theorem rget_any (a : Option Addr) (len cap : Nat) (bs : List Nat) (w : World) (hs : Sl w w.heap.size a len cap bs) :
    Calls Tryd.prog 40 #[.slice a len cap] w fun e w' => ∃ ba bc, e = .returned (.tuple #[.agg #[.int .i64 (get bs).1.ty, .int .i64 (get bs).1.seq, .slice ba (get bs).1.body.length bc], .int .i64 (((get bs).2.1 : Nat) : Int), .int .i64 (((get bs).2.2 : Nat) : Int)]) ∧
      Sl w' w'.heap.size ba (get bs).1.body.length bc (get bs).1.body ∧ Below w.heap.size w w' ∧ (∀ b o, ba = some ⟨b, o, none⟩ → w.heap.size ≤ b) := by
  have hbl := hs.length
  have hle := hs.le
  have hmx := hs.max
  unfold maxLen at hmx
  have hB0 : Below w.heap.size w (w.alloc (.cells #[.int .i64 0, .int .i64 0, .slice none 0 0] 36)) := (Below.refl _ _).alloc (Nat.le_refl _) _
  have hr0 := heap_alloc_new w (.cells #[.int .i64 0, .int .i64 0, .slice none 0 0] 36)
  have hw0 := heap_setCells_whole (cs := [Value.int .i64 0, .int .i64 0, .slice none 0 0]) [Value.int .i64 0, .int .i64 0, .slice none 0 0] rfl hr0
  by_cases h2 : len < 2
  · have hg : get bs = (Fr.zero, 0, 13) := by unfold Frm.get; rw [if_pos (by omega)]
    rw [hg]
    have h2' : (len : Int) < 2 := by omega
    have H := Lib.hid (And.intro hB0 (And.intro hr0 hw0))
    clear hB0 hr0 hw0
    go_enter Tryd.func40, Tryd.ntmps40
    go_wp2_with (first
      | (refine wpList_store_mid (by rfl) 36 (.tmp 2) (.tmp 10) (by rfl) w.heap.size 0 #[.int .i64 0, .int .i64 0, .slice none 0 0] (by rfl) (by rfl) (there_of_block H.out.2.1 (by simp)) (by kernel_rfl) zero_cells ?_))
    refine bodyPost_ret (results_row_tmp2 rfl _ _ w.heap.size _ _ _ _ rfl H.out.2.2 Tryd.underlying36 (by rfl) (by kernel_rfl)) (by rfl) ?_
    exact getPost_zero rfl (below_setCells' _ (Nat.le_refl _) _ _ H.out.1)
  · have h2' : (2 : Int) ≤ (len : Int) := by omega
    have s2 := (hs.take (k := 2) (by omega)).below hB0 (Nat.le_refl _) |>.more hB0.size
    have c2 : ∀ w, (Instr.slice 22 (.slice a len cap) none (some (.int .i64 2)) none).run Tryd.prog w = .ok (.slice a 2 cap) w := run_cut_to (P := Tryd.prog) 22 5 Tryd.underlying22 info_u8 a len cap 2 (by omega)
    have hv : szOf bs < 65536 := by
      have h1 := val_lt (bs.take 2) (fun c hc => hs.byte c (List.mem_of_mem_take hc))
      have h2 : (bs.take 2).length = 2 := by rw [List.length_take]; omega
      rw [h2] at h1
      exact h1
    have RD := Lib.hid (rread_any a 2 cap (bs.take 2) _ s2 (by decide))
    have Hsz : Hid (val (bs.take 2) = szOf bs) := rfl
    rw [Hsz.out] at RD
    have Hget : Hid (get bs = if 1800 < szOf bs then (Fr.zero, 0, 12) else if bs.length < szOf bs + 11 then (Fr.zero, 0, 13) else if val ((bs.take (szOf bs + 11)).drop (szOf bs + 7)) ≠ more 0 (bs.take (szOf bs + 7)) then (Fr.zero, 0, 14)
        else if ¬ (frOf bs).right then (Fr.zero, 0, 12) else (frOf bs, szOf bs + 11, 0)) := by show _ = _; unfold Frm.get; rw [if_neg (by omega)]
    have Hbody : Hid ((frOf bs).body = (bs.take (szOf bs + 7)).drop 7) := rfl
    obtain ⟨n, hn⟩ : ∃ n, n = szOf bs := ⟨_, rfl⟩
    rw [← hn] at RD hv Hget Hbody
    have Hn := Lib.hid hn
    clear hn Hsz s2
    have hwn : IntKind.i64.wrap (n : Int) = (n : Int) := by rw [IntKind.wrap_i64]; omega
    have H := Lib.hid (And.intro hB0 (And.intro hr0 hw0))
    clear hB0 hr0 hw0
    by_cases h18 : 1800 < n
    · have hg := Hget.out
      rw [if_pos h18] at hg
      rw [hg]
      clear hg
      have h18' : (1800 : Int) < (n : Int) := by omega
      go_enter Tryd.func40, Tryd.ntmps40
      go_wp2_with fail
      refine RD.out.mono ?_
      rintro e w1 ⟨rfl, rfl⟩
      go_wp2_with (first
        | (refine wpList_store_mid (by rfl) 36 (.tmp 2) (.tmp 17) (by rfl) w.heap.size 0 #[.int .i64 0, .int .i64 0, .slice none 0 0] (by rfl) (by rfl) (there_of_block H.out.2.1 (by simp)) (by kernel_rfl) zero_cells ?_))
      refine bodyPost_ret (results_row_tmp2 rfl _ _ w.heap.size _ _ _ _ rfl H.out.2.2 Tryd.underlying36 (by rfl) (by kernel_rfl)) (by rfl) ?_
      exact getPost_zero rfl (below_setCells' _ (Nat.le_refl _) _ _ H.out.1)
    · by_cases h11 : len < n + 11
      · have hg := Hget.out
        rw [if_neg h18, if_pos (by omega)] at hg
        rw [hg]
        clear hg
        have h18' : (n : Int) ≤ 1800 := by omega
        have h11' : (len : Int) < (n : Int) + 11 := by omega
        go_enter Tryd.func40, Tryd.ntmps40
        go_wp2_with fail
        refine RD.out.mono ?_
        rintro e w1 ⟨rfl, rfl⟩
        go_wp2_with (first
          | (refine wpList_store_mid (by rfl) 36 (.tmp 2) (.tmp 23) (by rfl) w.heap.size 0 #[.int .i64 0, .int .i64 0, .slice none 0 0] (by rfl) (by rfl) (there_of_block H.out.2.1 (by simp)) (by kernel_rfl) zero_cells ?_))
        refine bodyPost_ret (results_row_tmp2 rfl _ _ w.heap.size _ _ _ _ rfl H.out.2.2 Tryd.underlying36 (by rfl) (by kernel_rfl)) (by rfl) ?_
        exact getPost_zero rfl (below_setCells' _ (Nat.le_refl _) _ _ H.out.1)
      · have h18' : (n : Int) ≤ 1800 := by omega
        have h11' : (n : Int) + 11 ≤ (len : Int) := by omega
        have hg0 := Hget.out
        rw [if_neg h18, if_neg (by omega)] at hg0
        have Hg := Lib.hid hg0
        clear hg0 Hget
        obtain ⟨W, hW⟩ : ∃ W, W = w.alloc (.cells #[.int .i64 0, .int .i64 0, .slice none 0 0] 36) := ⟨_, rfl⟩
        have hBW : Below w.heap.size w W := by rw [hW]; exact H.out.1
        have hrW : W.heap[w.heap.size]? = some (.cells #[.int .i64 0, .int .i64 0, .slice none 0 0] 36 (0, 0)) := by rw [hW]; exact H.out.2.1
        have HW := Lib.hid hW
        have HbW := Lib.hid (And.intro hBW hrW)
        have sW := (hs.below hBW (Nat.le_refl _)).more hBW.size
        have s1 := sW.take (k := n + 7) (by omega)
        have sm := sW.mid (j := n + 7) (k := n + 11) (by omega) (by omega)
        have c1 : ∀ w, (Instr.slice 22 (.slice a len cap) none (some (.int .i64 ((n : Int) + 7))) none).run Tryd.prog w = .ok (.slice a (n + 7) cap) w := fun w => by
          have := run_cut_to (P := Tryd.prog) 22 5 Tryd.underlying22 info_u8 a len cap (n + 7) (by omega) w
          rw [show ((n + 7 : Nat) : Int) = (n : Int) + 7 from by omega] at this; exact this
        have cm : ∀ w, (Instr.slice 22 (.slice a len cap) (some (.int .i64 ((n : Int) + 7))) (some (.int .i64 ((n : Int) + 11))) none).run Tryd.prog w = .ok (.slice (fromA a cap (n + 7)) 4 (cap - (n + 7))) w := fun w => by
          have := run_cut_mid (P := Tryd.prog) 22 5 Tryd.underlying22 info_u8 a len cap (n + 7) (n + 11) (by omega) (by omega) w
          rw [show ((n + 7 : Nat) : Int) = (n : Int) + 7 from by omega, show ((n + 11 : Nat) : Int) = (n : Int) + 11 from by omega, show n + 11 - (n + 7) = 4 from by omega] at this; exact this
        rw [show n + 11 - (n + 7) = 4 from by omega] at sm
        generalize fromA a cap (n + 7) = am at sm cm
        generalize cap - (n + 7) = km at sm cm
        have s37 := sW.mid (j := 3) (k := 7) (by omega) (by omega)
        have c37 : ∀ w, (Instr.slice 22 (.slice a len cap) (some (.int .i64 3)) (some (.int .i64 7)) none).run Tryd.prog w = .ok (.slice (fromA a cap 3) 4 (cap - 3)) w := run_cut_mid (P := Tryd.prog) 22 5 Tryd.underlying22 info_u8 a len cap 3 7 (by omega) (by omega)
        rw [show 7 - 3 = 4 from rfl] at s37
        generalize fromA a cap 3 = a3 at s37 c37
        generalize cap - 3 = k3 at s37 c37
        have s7 := sW.mid (j := 7) (k := n + 7) (by omega) (by omega)
        have c7 : ∀ w, (Instr.slice 22 (.slice a len cap) (some (.int .i64 7)) (some (.int .i64 ((n : Int) + 7))) none).run Tryd.prog w = .ok (.slice (fromA a cap 7) n (cap - 7)) w := fun w => by
          have := run_cut_mid (P := Tryd.prog) 22 5 Tryd.underlying22 info_u8 a len cap 7 (n + 7) (by omega) (by omega) w
          rw [show ((n + 7 : Nat) : Int) = (n : Int) + 7 from by omega, show n + 7 - 7 = n from by omega] at this; exact this
        rw [show n + 7 - 7 = n from by omega] at s7
        generalize fromA a cap 7 = a7 at s7 c7
        generalize cap - 7 = k7 at s7 c7
        obtain ⟨b, o, rfl, hblt, hcell⟩ := sW.at_ (by omega)
        have hc2 := hcell 2 (by omega)
        obtain ⟨ty, hty⟩ : ∃ t, t = bs.getD 2 0 := ⟨_, rfl⟩
        have hty8 : ty < 256 := by rw [hty]; exact hs.lt (by omega)
        rw [← hty] at hc2
        obtain ⟨sq, hsq⟩ : ∃ t, t = val ((bs.take 7).drop 3) := ⟨_, rfl⟩
        have hsql : sq < 4294967296 := by
          have h1 := val_lt _ (fun c hc => s37.byte c hc)
          rw [s37.length] at h1
          rw [hsq]; exact h1
        have Hts := Lib.hid (And.intro hty hsq)
        clear hty hcell
        have R37 := Lib.hid (fun (w' : World) (hb : Below W.heap.size W w') => rread_any a3 4 k3 ((bs.take 7).drop 3) w' ((s37.below hb (Nat.le_refl _)).more hb.size) (by decide))
        rw [← hsq] at R37
        have hwty : IntKind.i64.wrap (ty : Int) = (ty : Int) := by rw [IntKind.wrap_i64]; omega
        have hwsq : IntKind.i64.wrap (sq : Int) = (sq : Int) := by rw [IntKind.wrap_i64]; omega
        have hwn7 : IntKind.i64.wrap ((n : Int) + 7) = (n : Int) + 7 := by rw [IntKind.wrap_i64]; omega
        have hwn11 : IntKind.i64.wrap ((n : Int) + 11) = (n : Int) + 11 := by rw [IntKind.wrap_i64]; omega
        have RM := Lib.hid (fun (w' : World) (hb : Below W.heap.size W w') => rread_any am 4 km _ w' ((sm.below hb (Nat.le_refl _)).more hb.size) (by decide))
        have RO := Lib.hid (fun (w' : World) (hb : Below W.heap.size W w') => rof_any _ (n + 7) cap _ w' ((s1.below hb (Nat.le_refl _)).more hb.size))
        have hml := more_lt 0 (bs.take (n + 7))
        have Hval : Hid (∃ z1 z2, z1 = val ((bs.take (n + 11)).drop (n + 7)) ∧ z2 = more 0 (bs.take (n + 7))) := ⟨_, _, rfl, rfl⟩
        obtain ⟨z1, z2, hz1, hz2⟩ := Hval.out
        rw [← hz1] at RM Hg
        rw [← hz2] at RO Hg hml
        have hwz : IntKind.u64.wrap (z2 : Int) = (z2 : Int) := by rw [IntKind.wrap_u64]; omega
        have S7 := Lib.hid s7
        have Hr := Lib.hid (rright_any (frOf bs))
        clear hsq s37 sm s1 s7 hz1 hz2 Hval sW hs hBW hrW hW
        by_cases hz : z1 = z2
        · subst hz
          have r1 : ((z1 : Int) != (z1 : Int)) = false := by simp
          have i2 : (2 : Int) < (len : Int) := by omega
          have hg0 := Hg.out
          rw [if_neg (by simp)] at hg0
          have Hg2 := Lib.hid hg0
          clear hg0 Hg
          go_enter Tryd.func40, Tryd.ntmps40
          go_wp2_with fail
          refine RD.out.mono ?_
          rintro e w1 ⟨rfl, rfl⟩
          clear RD H
          go_wp2_with fail
          rw [← HW.out]
          refine wp_region_held_drew (S := fun w' => Below W.heap.size W w') (by kernel_rfl) (Below.drew (Below.refl _ _)) (fun hHeld => ?_)
          refine wpAnyH_take (i := 0) (v := ?_) rfl (by kernel_rfl) (by kernel_rfl) (by kernel_rfl) (fun _ _ _ h => h) (Or.inl ⟨by rfl, ?_⟩) (by assumption) ?_
          rotate_left
          · intro w hSw
            (try dsimp only at hSw)
            go_simp
            all_goals with_reducible rfl
          try simp only [Act.put, List.getElem_toArray, List.getElem_cons_succ, List.getElem_cons_zero, List.setIfInBounds_toArray, List.set_cons_zero, List.set_cons_succ]
          refine wpAnyH_take (i := 1) (v := ?_) rfl (by kernel_rfl) (by kernel_rfl) (by kernel_rfl) (fun _ _ _ h => h) (Or.inl ⟨by rfl, ?_⟩) (by assumption) ?_
          rotate_left
          · intro w hSw
            (try dsimp only at hSw)
            go_simp
            all_goals with_reducible rfl
          try simp only [Act.put, List.getElem_toArray, List.getElem_cons_succ, List.getElem_cons_zero, List.setIfInBounds_toArray, List.set_cons_zero, List.set_cons_succ]
          refine wpAnyH_take (i := 2) (v := ?_) rfl (by kernel_rfl) (by kernel_rfl) (by kernel_rfl) (fun _ _ _ h => h) (Or.inl ⟨by rfl, ?_⟩) (by assumption) ?_
          rotate_left
          · intro w hSw
            (try dsimp only at hSw)
            go_simp
            all_goals with_reducible rfl
          try simp only [Act.put, List.getElem_toArray, List.getElem_cons_succ, List.getElem_cons_zero, List.setIfInBounds_toArray, List.set_cons_zero, List.set_cons_succ]
          refine wpAnyH_take (i := 3) (v := ?_) rfl (by kernel_rfl) (by kernel_rfl) (by kernel_rfl) (fun _ _ _ h => h) (Or.inl ⟨by rfl, ?_⟩) (by assumption) ?_
          rotate_left
          · intro w hSw
            (try dsimp only at hSw)
            go_simp
            all_goals with_reducible rfl
          try simp only [Act.put, List.getElem_toArray, List.getElem_cons_succ, List.getElem_cons_zero, List.setIfInBounds_toArray, List.set_cons_zero, List.set_cons_succ]
          refine wpAnyH_take (i := 4) (v := ?_) rfl (by kernel_rfl) (by kernel_rfl) (by kernel_rfl) (fun _ _ _ h => h) (Or.inl ⟨by rfl, ?_⟩) (by assumption) ?_
          rotate_left
          · intro w hSw
            (try dsimp only at hSw)
            go_simp
            all_goals with_reducible rfl
          try simp only [Act.put, List.getElem_toArray, List.getElem_cons_succ, List.getElem_cons_zero, List.setIfInBounds_toArray, List.set_cons_zero, List.set_cons_succ]
          refine wpAnyH_take (i := 5) (v := ?_) rfl (by kernel_rfl) (by kernel_rfl) (by kernel_rfl) (fun _ _ _ h => h) (Or.inl ⟨by rfl, ?_⟩) (by assumption) ?_
          rotate_left
          · intro w hSw
            (try dsimp only at hSw)
            go_simp
            all_goals with_reducible rfl
          try simp only [Act.put, List.getElem_toArray, List.getElem_cons_succ, List.getElem_cons_zero, List.setIfInBounds_toArray, List.set_cons_zero, List.set_cons_succ]
          refine take_first (i := 6) rfl (by kernel_rfl) (by kernel_rfl) (by kernel_rfl) (fun _ _ _ h => h) (GivesIf.call (by rfl) (fun w => ?_) (fun w hS => RM.out w hS)) (by assumption) ?_
          · go_simp
            all_goals with_reducible rfl
          try simp only [Act.put, List.getElem_toArray, List.getElem_cons_succ, List.getElem_cons_zero, List.setIfInBounds_toArray, List.set_cons_zero, List.set_cons_succ]
          refine wpAnyH_take (i := 7) (v := ?_) rfl (by kernel_rfl) (by kernel_rfl) (by kernel_rfl) (fun _ _ _ h => h) (Or.inl ⟨by rfl, ?_⟩) (by assumption) ?_
          rotate_left
          · intro w hSw
            (try dsimp only at hSw)
            go_simp
            all_goals with_reducible rfl
          try simp only [Act.put, List.getElem_toArray, List.getElem_cons_succ, List.getElem_cons_zero, List.setIfInBounds_toArray, List.set_cons_zero, List.set_cons_succ]
          refine wpAnyH_take (i := 8) (v := ?_) rfl (by kernel_rfl) (by kernel_rfl) (by kernel_rfl) (fun _ _ _ h => h) (Or.inl ⟨by rfl, ?_⟩) (by assumption) ?_
          rotate_left
          · intro w hSw
            (try dsimp only at hSw)
            go_simp
            all_goals with_reducible rfl
          try simp only [Act.put, List.getElem_toArray, List.getElem_cons_succ, List.getElem_cons_zero, List.setIfInBounds_toArray, List.set_cons_zero, List.set_cons_succ]
          refine wpAnyH_take (i := 9) (v := ?_) rfl (by kernel_rfl) (by kernel_rfl) (by kernel_rfl) (fun _ _ _ h => h) (Or.inl ⟨by rfl, ?_⟩) (by assumption) ?_
          rotate_left
          · intro w hSw
            (try dsimp only at hSw)
            go_simp
            all_goals with_reducible rfl
          try simp only [Act.put, List.getElem_toArray, List.getElem_cons_succ, List.getElem_cons_zero, List.setIfInBounds_toArray, List.set_cons_zero, List.set_cons_succ]
          refine wpAnyH_take (i := 10) (v := ?_) rfl (by kernel_rfl) (by kernel_rfl) (by kernel_rfl) (fun _ _ _ h => h) (Or.inl ⟨by rfl, ?_⟩) (by assumption) ?_
          rotate_left
          · intro w hSw
            (try dsimp only at hSw)
            go_simp
            all_goals with_reducible rfl
          try simp only [Act.put, List.getElem_toArray, List.getElem_cons_succ, List.getElem_cons_zero, List.setIfInBounds_toArray, List.set_cons_zero, List.set_cons_succ]
          refine take_first (i := 11) rfl (by kernel_rfl) (by kernel_rfl) (by kernel_rfl) (fun _ _ _ h => h) (GivesIf.call (by rfl) (fun w => ?_) (fun w hS => RO.out w hS)) (by assumption) ?_
          · go_simp
            all_goals with_reducible rfl
          try simp only [Act.put, List.getElem_toArray, List.getElem_cons_succ, List.getElem_cons_zero, List.setIfInBounds_toArray, List.set_cons_zero, List.set_cons_succ]
          refine wpAnyH_take (i := 12) (v := ?_) rfl (by kernel_rfl) (by kernel_rfl) (by kernel_rfl) (fun _ _ _ h => h) (Or.inl ⟨by rfl, ?_⟩) (by assumption) ?_
          rotate_left
          · intro w hSw
            (try dsimp only at hSw)
            go_simp
            all_goals with_reducible rfl
          try simp only [Act.put, List.getElem_toArray, List.getElem_cons_succ, List.getElem_cons_zero, List.setIfInBounds_toArray, List.set_cons_zero, List.set_cons_succ]
          refine wpAnyH_take (i := 13) (v := ?_) rfl (by kernel_rfl) (by kernel_rfl) (by kernel_rfl) (fun _ _ _ h => h) (Or.inl ⟨by rfl, ?_⟩) (by assumption) ?_
          rotate_left
          · intro w hSw
            (try dsimp only at hSw)
            go_simp
            all_goals with_reducible rfl
          try simp only [Act.put, List.getElem_toArray, List.getElem_cons_succ, List.getElem_cons_zero, List.setIfInBounds_toArray, List.set_cons_zero, List.set_cons_succ]
          refine wpAnyH_done (by kernel_rfl) ?_ _
          clear RM RO hml hwz hHeld
          go_wp2_with fail
          go_cut [6] from 7 (fun p wx => GotAt W wx p (ty : Int) (sq : Int) n ((bs.take (n + 7)).drop 7))
          case first =>
            refine wp_region_held_drew (S := fun w' => w'.cell? ⟨b, o + 2, none⟩ = some (.int .u8 (ty : Int)) ∧ Below W.heap.size W w') (by kernel_rfl) ⟨hc2, Below.drew (Below.drew (Below.refl _ _))⟩ (fun hHeld => ?_)
            refine wpAnyH_take (i := 0) (v := ?_) rfl (by kernel_rfl) (by kernel_rfl) (by kernel_rfl) (fun _ _ _ h => h) (Or.inl ⟨by rfl, ?_⟩) (by assumption) ?_
            rotate_left
            · intro w hSw
              (try dsimp only at hSw)
              go_simp
              all_goals with_reducible rfl
            try simp only [Act.put, List.getElem_toArray, List.getElem_cons_succ, List.getElem_cons_zero, List.setIfInBounds_toArray, List.set_cons_zero, List.set_cons_succ]
            refine wpAnyH_take (i := 1) (v := ?_) rfl (by kernel_rfl) (by kernel_rfl) (by kernel_rfl) (fun _ _ _ h => h) (Or.inl ⟨by rfl, ?_⟩) (by assumption) ?_
            rotate_left
            · intro w hSw
              (try dsimp only at hSw)
              go_simp
              all_goals with_reducible rfl
            try simp only [Act.put, List.getElem_toArray, List.getElem_cons_succ, List.getElem_cons_zero, List.setIfInBounds_toArray, List.set_cons_zero, List.set_cons_succ]
            refine wpAnyH_take (i := 2) (v := ?_) rfl (by kernel_rfl) (by kernel_rfl) (by kernel_rfl) (fun _ _ _ h => h) (Or.inl ⟨by rfl, ?_⟩) (by assumption) ?_
            rotate_left
            · intro w hSw
              (try dsimp only at hSw)
              go_simp
              all_goals with_reducible rfl
            try simp only [Act.put, List.getElem_toArray, List.getElem_cons_succ, List.getElem_cons_zero, List.setIfInBounds_toArray, List.set_cons_zero, List.set_cons_succ]
            refine wpAnyH_take (i := 3) (v := ?_) rfl (by kernel_rfl) (by kernel_rfl) (by kernel_rfl) (fun _ _ _ h => h) (Or.inl ⟨by rfl, ?_⟩) (by assumption) ?_
            rotate_left
            · intro w hSw
              (try dsimp only at hSw)
              go_simp
              all_goals with_reducible rfl
            try simp only [Act.put, List.getElem_toArray, List.getElem_cons_succ, List.getElem_cons_zero, List.setIfInBounds_toArray, List.set_cons_zero, List.set_cons_succ]
            refine wpAnyH_take (i := 4) (v := ?_) rfl (by kernel_rfl) (by kernel_rfl) (by kernel_rfl) (fun _ _ _ h => h) (Or.inl ⟨by rfl, ?_⟩) (by assumption) ?_
            rotate_left
            · intro w hSw
              (try dsimp only at hSw)
              go_simp
              all_goals with_reducible rfl
            try simp only [Act.put, List.getElem_toArray, List.getElem_cons_succ, List.getElem_cons_zero, List.setIfInBounds_toArray, List.set_cons_zero, List.set_cons_succ]
            refine wpAnyH_take (i := 5) (v := ?_) rfl (by kernel_rfl) (by kernel_rfl) (by kernel_rfl) (fun _ _ _ h => h) (Or.inl ⟨by rfl, ?_⟩) (by assumption) ?_
            rotate_left
            · intro w hSw
              (try dsimp only at hSw)
              go_simp
              all_goals with_reducible rfl
            try simp only [Act.put, List.getElem_toArray, List.getElem_cons_succ, List.getElem_cons_zero, List.setIfInBounds_toArray, List.set_cons_zero, List.set_cons_succ]
            refine take_first (i := 6) rfl (by kernel_rfl) (by kernel_rfl) (by kernel_rfl) (fun _ _ _ h => h) (GivesIf.call (by rfl) (fun w => ?_) (fun w hS => R37.out w hS.2)) (by assumption) ?_
            · go_simp
              all_goals with_reducible rfl
            try simp only [Act.put, List.getElem_toArray, List.getElem_cons_succ, List.getElem_cons_zero, List.setIfInBounds_toArray, List.set_cons_zero, List.set_cons_succ]
            refine wpAnyH_take (i := 7) (v := ?_) rfl (by kernel_rfl) (by kernel_rfl) (by kernel_rfl) (fun _ _ _ h => h) (Or.inl ⟨by rfl, ?_⟩) (by assumption) ?_
            rotate_left
            · intro w hSw
              (try dsimp only at hSw)
              go_simp
              all_goals with_reducible rfl
            try simp only [Act.put, List.getElem_toArray, List.getElem_cons_succ, List.getElem_cons_zero, List.setIfInBounds_toArray, List.set_cons_zero, List.set_cons_succ]
            refine wpAnyH_take (i := 9) (v := ?_) rfl (by kernel_rfl) (by kernel_rfl) (by kernel_rfl) (fun _ _ _ h => h) (Or.inl ⟨by rfl, ?_⟩) (by assumption) ?_
            rotate_left
            · intro w hSw
              (try dsimp only at hSw)
              go_simp
              all_goals with_reducible rfl
            try simp only [Act.put, List.getElem_toArray, List.getElem_cons_succ, List.getElem_cons_zero, List.setIfInBounds_toArray, List.set_cons_zero, List.set_cons_succ]
            refine wpAnyH_take (i := 10) (v := ?_) rfl (by kernel_rfl) (by kernel_rfl) (by kernel_rfl) (fun _ _ _ h => h) (Or.inl ⟨by rfl, ?_⟩) (by assumption) ?_
            rotate_left
            · intro w hSw
              (try dsimp only at hSw)
              go_simp
              all_goals with_reducible rfl
            try simp only [Act.put, List.getElem_toArray, List.getElem_cons_succ, List.getElem_cons_zero, List.setIfInBounds_toArray, List.set_cons_zero, List.set_cons_succ]
            refine wpAnyH_take (i := 11) (v := ?_) rfl (by kernel_rfl) (by kernel_rfl) (by kernel_rfl) (fun _ _ _ h => h) (Or.inl ⟨by rfl, ?_⟩) (by assumption) ?_
            rotate_left
            · intro w hSw
              (try dsimp only at hSw)
              go_simp
              all_goals with_reducible rfl
            try simp only [Act.put, List.getElem_toArray, List.getElem_cons_succ, List.getElem_cons_zero, List.setIfInBounds_toArray, List.set_cons_zero, List.set_cons_succ]
            refine wpAnyH_take (i := 12) (v := ?_) rfl (by kernel_rfl) (by kernel_rfl) (by kernel_rfl) (fun _ _ _ h => h) (Or.inl ⟨by rfl, ?_⟩) (by assumption) ?_
            rotate_left
            · intro w hSw
              (try dsimp only at hSw)
              go_simp
              all_goals with_reducible rfl
            try simp only [Act.put, List.getElem_toArray, List.getElem_cons_succ, List.getElem_cons_zero, List.setIfInBounds_toArray, List.set_cons_zero, List.set_cons_succ]
            clear R37 c1 cm c37 c7 hwsq hwn7 hwn11
            refine wpAnyH_ready (rs := [8, 15]) (by kernel_rfl) (by simp) ?_
            refine AllReadyH.cons rfl (fun K hK => ?_) (AllReadyH.cons rfl (fun K hK => ?_) AllReadyH.nil)
            · go_simp
              have hc3 : (W.drew.drew.alloc (.cells #[] 5)).cell? ⟨b, o + 2, none⟩ = some (.int .u8 (ty : Int)) := (World.cell?_alloc_past _ _ _ hblt).trans hc2
              have hb3 : Below W.heap.size W (W.drew.drew.alloc (.cells #[] 5)) := (Below.drew (Below.drew (Below.refl _ _))).alloc (Nat.le_refl _) _
              have hown0 : OwnB (W.drew.drew.alloc (.cells #[] 5)) W.heap.size 5 (.slice (some ⟨W.heap.size, 0, none⟩) 0 0) [] := OwnB.lit (w := W.drew.drew) _ [] (Nat.le_refl _) (by decide)
              refine hK.out _ _ ?_ (fun hHeld => ?_)
              · exact ⟨hc3, hb3⟩
              clear hK K
              try simp only [Act.put, List.getElem_toArray, List.getElem_cons_succ, List.getElem_cons_zero, List.setIfInBounds_toArray, List.set_cons_zero, List.set_cons_succ]
              refine wpAnyH_ready (rs := [13, 15]) (by kernel_rfl) (by simp) ?_
              refine AllReadyH.cons rfl (fun K hK => ?_) (AllReadyH.cons rfl (fun K hK => ?_) AllReadyH.nil)
              · rw [if_pos (by rfl)]
                refine wp_append_sl (.tmp 47) (.tmp 51) _ rfl W.heap.size _ Tryd.underlying22 info_u8 (.slice (some ⟨W.heap.size, 0, none⟩) 0 0) [] rfl hown0 _ a7 n k7 _ rfl (S7.out.below hb3 (Nat.le_refl _)) (by simp; omega) (by simp) ?_
                intro v1 w3 ho1 hg1 hat1
                rw [List.nil_append] at ho1
                have hB3 : Below W.heap.size W w3 := hb3.grown hg1 (by simp) (fun k hk => by simp [Value.ownBlock] at hk; omega)
                have hc4 : w3.cell? ⟨b, o + 2, none⟩ = some (.int .u8 (ty : Int)) := hg1.cell hc3 (by simp [Value.ownBlock]; omega)
                refine hK.out _ _ ?_ (fun hHeld => ?_)
                · exact ⟨hc4, hB3⟩
                clear hK K
                try simp only [Act.put, List.getElem_toArray, List.getElem_cons_succ, List.getElem_cons_zero, List.setIfInBounds_toArray, List.set_cons_zero, List.set_cons_succ]
                obtain ⟨ba, bc, hv1, hs4, hbb⟩ := ho1.sl_base S7.out.byte
                rw [S7.out.length] at hv1 hs4
                subst hv1
                refine wpAnyH_take (i := 14) (v := ?_) rfl (by kernel_rfl) (by kernel_rfl) (by kernel_rfl) (fun _ _ _ h => h) (Or.inl ⟨by rfl, ?_⟩) (by assumption) ?_
                rotate_left
                · intro w hSw
                  (try dsimp only at hSw)
                  go_simp
                  all_goals with_reducible rfl
                try simp only [Act.put, List.getElem_toArray, List.getElem_cons_succ, List.getElem_cons_zero, List.setIfInBounds_toArray, List.set_cons_zero, List.set_cons_succ]
                refine wpAnyH_ready (rs := [15]) (by kernel_rfl) (by simp) ?_
                refine AllReadyH.cons rfl (fun K hK => ?_) AllReadyH.nil
                rw [if_pos (by rfl)]
                go_simp
                have hlt3 := Nat.lt_of_lt_of_le hblt hB3.size
                refine hK.out _ _ ?_ (fun hHeld => ?_)
                · exact ⟨(World.cell?_alloc_past _ _ _ hlt3).trans hc4, hB3.alloc hB3.size _⟩
                clear hK K
                try simp only [Act.put, List.getElem_toArray, List.getElem_cons_succ, List.getElem_cons_zero, List.setIfInBounds_toArray, List.set_cons_zero, List.set_cons_succ]
                refine wpAnyH_ready (rs := [16]) (by kernel_rfl) (by simp) ?_
                refine AllReadyH.cons rfl (fun K hK => ?_) AllReadyH.nil
                rw [if_pos (by rfl)]
                go_simp
                refine hK.out _ _ ?_ (fun hHeld => ?_)
                · exact ⟨(World.cell?_alloc_past _ _ _ hlt3).trans hc4, hB3.alloc hB3.size _⟩
                clear hK K
                try simp only [Act.put, List.getElem_toArray, List.getElem_cons_succ, List.getElem_cons_zero, List.setIfInBounds_toArray, List.set_cons_zero, List.set_cons_succ]
                refine wpAnyH_done (by kernel_rfl) ?_ _
                go_wp2_with fail
                go_meet
                case rel => exact ⟨⟨w3.heap.size, ba, bc, rfl, heap_alloc_new _ _, (hs4.below ((Below.refl _ _).alloc (Nat.le_refl _) _) (Nat.le_refl _)).more (by simp), hB3.alloc hB3.size _, hB3.size, hbb⟩⟩
              · rw [if_pos (by rfl)]
                go_simp
                refine hK.out _ _ ?_ (fun hHeld => ?_)
                · exact ⟨(World.cell?_alloc_past _ _ _ (by simp; omega)).trans hc3, hb3.alloc (by simp) _⟩
                clear hK K
                try simp only [Act.put, List.getElem_toArray, List.getElem_cons_succ, List.getElem_cons_zero, List.setIfInBounds_toArray, List.set_cons_zero, List.set_cons_succ]
                refine wpAnyH_ready (rs := [13]) (by kernel_rfl) (by simp) ?_
                refine AllReadyH.cons rfl (fun K hK => ?_) AllReadyH.nil
                rw [if_pos (by rfl)]
                have hb4 : Below W.heap.size W ((W.drew.drew.alloc (.cells #[] 5)).alloc (.cells #[.int .i64 0, .int .i64 0, .slice none 0 0] 36)) := hb3.alloc (by simp) _
                refine wp_append_sl (.tmp 47) (.tmp 51) _ rfl W.heap.size _ Tryd.underlying22 info_u8 (.slice (some ⟨W.heap.size, 0, none⟩) 0 0) [] rfl (hown0.alloc _) _ a7 n k7 _ rfl (S7.out.below hb4 (Nat.le_refl _)) (by simp; omega) (by simp; omega) ?_
                intro v1 w3 ho1 hg1 hat1
                rw [List.nil_append] at ho1
                have hB3 : Below W.heap.size W w3 := hb4.grown hg1 (by simp; omega) (fun k hk => by simp [Value.ownBlock] at hk; omega)
                have hc4 : w3.cell? ⟨b, o + 2, none⟩ = some (.int .u8 (ty : Int)) := hg1.cell ((World.cell?_alloc_past _ _ _ (by simp; omega)).trans hc3) (by simp [Value.ownBlock]; omega)
                have hz3 := (hg1.block (W.heap.size + 1) (by simp) (by simp [Value.ownBlock])).trans (heap_alloc2_new W.drew.drew _ _)
                refine hK.out _ _ ?_ (fun hHeld => ?_)
                · exact ⟨hc4, hB3⟩
                clear hK K
                try simp only [Act.put, List.getElem_toArray, List.getElem_cons_succ, List.getElem_cons_zero, List.setIfInBounds_toArray, List.set_cons_zero, List.set_cons_succ]
                obtain ⟨ba, bc, hv1, hs4, hbb⟩ := ho1.sl_base S7.out.byte
                rw [S7.out.length] at hv1 hs4
                subst hv1
                refine wpAnyH_take (i := 14) (v := ?_) rfl (by kernel_rfl) (by kernel_rfl) (by kernel_rfl) (fun _ _ _ h => h) (Or.inl ⟨by rfl, ?_⟩) (by assumption) ?_
                rotate_left
                · intro w hSw
                  (try dsimp only at hSw)
                  go_simp
                  all_goals with_reducible rfl
                try simp only [Act.put, List.getElem_toArray, List.getElem_cons_succ, List.getElem_cons_zero, List.setIfInBounds_toArray, List.set_cons_zero, List.set_cons_succ]
                have x0 := (cell_of_row w3 (W.heap.size + 1) 0 _ _ _ hz3).trans rfl
                have x1 := (cell_of_row w3 (W.heap.size + 1) 1 _ _ _ hz3).trans rfl
                have x2 := (cell_of_row w3 (W.heap.size + 1) 2 _ _ _ hz3).trans rfl
                have y0 := frozen_of_row w3 (W.heap.size + 1) 0 _ _ hz3
                have y1 := frozen_of_row w3 (W.heap.size + 1) 1 _ _ hz3
                have y2 := frozen_of_row w3 (W.heap.size + 1) 2 _ _ hz3
                refine wpAnyH_ready (rs := [16]) (by kernel_rfl) (by simp) ?_
                refine AllReadyH.cons rfl (fun K hK => ?_) AllReadyH.nil
                rw [if_pos (by rfl)]
                go_simp
                refine hK.out _ _ ?_ (fun hHeld => ?_)
                · exact ⟨cell_far3 hc4 (by simp; omega), below_set3 hB3 (by omega)⟩
                clear hK K
                try simp only [Act.put, List.getElem_toArray, List.getElem_cons_succ, List.getElem_cons_zero, List.setIfInBounds_toArray, List.set_cons_zero, List.set_cons_succ]
                refine wpAnyH_done (by kernel_rfl) ?_ _
                go_wp2_with fail
                go_meet
                case rel =>
                  refine got_set hz3 hB3 (by omega) hs4 hbb (fun _ b' o' h' e' => ?_)
                  subst h' e'
                  simp [Value.ownBlock] at hat1
                  try omega
            · rw [if_pos (by rfl)]
              go_simp
              have hc3 : (W.drew.drew.alloc (.cells #[.int .i64 0, .int .i64 0, .slice none 0 0] 36)).cell? ⟨b, o + 2, none⟩ = some (.int .u8 (ty : Int)) := (World.cell?_alloc_past _ _ _ hblt).trans hc2
              have hb3 : Below W.heap.size W (W.drew.drew.alloc (.cells #[.int .i64 0, .int .i64 0, .slice none 0 0] 36)) := (Below.drew (Below.drew (Below.refl _ _))).alloc (Nat.le_refl _) _
              refine hK.out _ _ ?_ (fun hHeld => ?_)
              · exact ⟨hc3, hb3⟩
              clear hK K
              try simp only [Act.put, List.getElem_toArray, List.getElem_cons_succ, List.getElem_cons_zero, List.setIfInBounds_toArray, List.set_cons_zero, List.set_cons_succ]
              refine wpAnyH_ready (rs := [8]) (by kernel_rfl) (by simp) ?_
              refine AllReadyH.cons rfl (fun K hK => ?_) AllReadyH.nil
              go_simp
              have hb4 := hb3.alloc (by simp) (.cells #[] 5)
              have hown0 : OwnB ((W.drew.drew.alloc (.cells #[.int .i64 0, .int .i64 0, .slice none 0 0] 36)).alloc (.cells #[] 5)) W.heap.size 5 (.slice (some ⟨W.heap.size + 1, 0, none⟩) 0 0) [] := by
                have := OwnB.lit (w := W.drew.drew.alloc (.cells #[.int .i64 0, .int .i64 0, .slice none 0 0] 36)) (base := W.heap.size) 5 [] (by simp) (by decide)
                simpa using this
              refine hK.out _ _ ?_ (fun hHeld => ?_)
              · exact ⟨(World.cell?_alloc_past _ _ _ (by simp; omega)).trans hc3, hb4⟩
              clear hK K
              try simp only [Act.put, List.getElem_toArray, List.getElem_cons_succ, List.getElem_cons_zero, List.setIfInBounds_toArray, List.set_cons_zero, List.set_cons_succ]
              refine wpAnyH_ready (rs := [13]) (by kernel_rfl) (by simp) ?_
              refine AllReadyH.cons rfl (fun K hK => ?_) AllReadyH.nil
              rw [if_pos (by rfl)]
              refine wp_append_sl (.tmp 47) (.tmp 51) _ rfl W.heap.size _ Tryd.underlying22 info_u8 (.slice (some ⟨W.heap.size + 1, 0, none⟩) 0 0) [] rfl hown0 _ a7 n k7 _ rfl (S7.out.below hb4 (Nat.le_refl _)) (by simp; omega) (by simp; omega) ?_
              intro v1 w3 ho1 hg1 hat1
              rw [List.nil_append] at ho1
              have hB3 : Below W.heap.size W w3 := hb4.grown hg1 (by simp; omega) (fun k hk => by simp [Value.ownBlock] at hk; omega)
              have hc4 : w3.cell? ⟨b, o + 2, none⟩ = some (.int .u8 (ty : Int)) := hg1.cell ((World.cell?_alloc_past _ _ _ (by simp; omega)).trans hc3) (by simp [Value.ownBlock]; omega)
              have hz3 := (hg1.block W.heap.size (by simp; omega) (by simp [Value.ownBlock])).trans ((heap_alloc_old _ _ (by simp)).trans (heap_alloc_new W.drew.drew _))
              refine hK.out _ _ ?_ (fun hHeld => ?_)
              · exact ⟨hc4, hB3⟩
              clear hK K
              try simp only [Act.put, List.getElem_toArray, List.getElem_cons_succ, List.getElem_cons_zero, List.setIfInBounds_toArray, List.set_cons_zero, List.set_cons_succ]
              obtain ⟨ba, bc, hv1, hs4, hbb⟩ := ho1.sl_base S7.out.byte
              rw [S7.out.length] at hv1 hs4
              subst hv1
              refine wpAnyH_take (i := 14) (v := ?_) rfl (by kernel_rfl) (by kernel_rfl) (by kernel_rfl) (fun _ _ _ h => h) (Or.inl ⟨by rfl, ?_⟩) (by assumption) ?_
              rotate_left
              · intro w hSw
                (try dsimp only at hSw)
                go_simp
                all_goals with_reducible rfl
              try simp only [Act.put, List.getElem_toArray, List.getElem_cons_succ, List.getElem_cons_zero, List.setIfInBounds_toArray, List.set_cons_zero, List.set_cons_succ]
              have x0 := (cell_of_row w3 (W.heap.size) 0 _ _ _ hz3).trans rfl
              have x1 := (cell_of_row w3 (W.heap.size) 1 _ _ _ hz3).trans rfl
              have x2 := (cell_of_row w3 (W.heap.size) 2 _ _ _ hz3).trans rfl
              have y0 := frozen_of_row w3 (W.heap.size) 0 _ _ hz3
              have y1 := frozen_of_row w3 (W.heap.size) 1 _ _ hz3
              have y2 := frozen_of_row w3 (W.heap.size) 2 _ _ hz3
              refine wpAnyH_ready (rs := [16]) (by kernel_rfl) (by simp) ?_
              refine AllReadyH.cons rfl (fun K hK => ?_) AllReadyH.nil
              rw [if_pos (by rfl)]
              go_simp
              refine hK.out _ _ ?_ (fun hHeld => ?_)
              · exact ⟨cell_far3 hc4 (by simp; omega), below_set3 hB3 (by omega)⟩
              clear hK K
              try simp only [Act.put, List.getElem_toArray, List.getElem_cons_succ, List.getElem_cons_zero, List.setIfInBounds_toArray, List.set_cons_zero, List.set_cons_succ]
              refine wpAnyH_done (by kernel_rfl) ?_ _
              go_wp2_with fail
              go_meet
              case rel =>
                refine got_set hz3 hB3 (by omega) hs4 hbb (fun _ b' o' h' e' => ?_)
                subst h' e'
                simp [Value.ownBlock] at hat1
                try omega
          case rest =>
            obtain ⟨g2, ba, bc, rfl, hg2, hsc, hB4, hge, hbb⟩ := hcut.ex
            obtain ⟨hBW, hrW⟩ := HbW.out
            have hltW := lt_of_heap hrW
            have hr4 := (hB4.block w.heap.size hltW).trans hrW
            have hBw := hBW.trans (hB4.mono hBW.size)
            have k0 := (cell_of_row wc g2 0 _ _ _ hg2).trans rfl
            have k1 := (cell_of_row wc g2 1 _ _ _ hg2).trans rfl
            have k2 := (cell_of_row wc g2 2 _ _ _ hg2).trans rfl
            have hgl2 := lt_of_heap hg2
            have hneq : g2 ≠ w.heap.size := by omega
            have Hbn : Hid (0 < n → ∀ b o, ba = some ⟨b, o, none⟩ → b ≠ w.heap.size) := fun _ b o h => by have := hbb b o h; omega
            have Hbb : Hid (∀ b o, ba = some ⟨b, o, none⟩ → w.heap.size ≤ b) := fun b o h => by have := hbb b o h; omega
            have hf1 : (frOf bs).ty = (ty : Int) := by rw [Hts.out.1]; rfl
            have hf2 : (frOf bs).seq = (sq : Int) := by rw [Hts.out.2]; rfl
            have hf3 : (frOf bs).body.length = n := by rw [Hbody.out, S7.out.length]
            have RG := Lib.hid (Hr.out (ty : Int) (sq : Int) n hf1 hf2 hf3 ba bc)
            have H4 := Lib.hid (And.intro hr4 (And.intro hBw (And.intro hsc hg2)))
            have Hf := Lib.hid (And.intro hf1 (And.intro hf2 (And.intro hf3 Hbody.out)))
            clear hbb hf1 hf2 hf3 hr4 hBw hsc hg2 hBW hrW hcut hB4 Hr Hbody
            go_wp2_with fail
            refine (RG.out _).mono ?_
            rintro e w5 ⟨rfl, hb5⟩
            have hg5 := (hb5.block g2 hgl2).trans H4.out.2.2.2
            have hr5 := (hb5.block w.heap.size (lt_of_heap H4.out.1)).trans H4.out.1
            have hB5 := H4.out.2.1.trans (hb5.mono H4.out.2.1.size)
            have hs5 := (H4.out.2.2.1.below hb5 (Nat.le_refl _)).more hb5.size
            have H5 := Lib.hid (And.intro hr5 (And.intro hB5 hs5))
            have G5 := Lib.hid hg5
            clear hr5 hB5 hs5 k0 k1 k2 H4 hb5 hg5
            by_cases hr : (frOf bs).right
            · rw [decide_eq_true hr]
              have k0 := (cell_of_row w5 g2 0 _ _ _ G5.out).trans rfl
              have k1 := (cell_of_row w5 g2 1 _ _ _ G5.out).trans rfl
              have k2 := (cell_of_row w5 g2 2 _ _ _ G5.out).trans rfl
              have hone : (#[Value.int .i64 (ty : Int), .int .i64 (sq : Int), .slice ba n bc].all fun x => x.oneCell') = true := by kernel_rfl
              have hg := Hg2.out
              rw [if_neg (by simpa using hr)] at hg
              have Hg' := Lib.hid hg
              have Hone := Lib.hid hone
              clear hg hone Hg2 hr
              go_wp2_with (first
                | (refine wpList_store_mid (by rfl) 36 (.tmp 2) (.tmp 58) (by rfl) w.heap.size 0 #[.int .i64 (ty : Int), .int .i64 (sq : Int), .slice ba n bc] (by rfl) (by rfl) (there_of_block H5.out.1 (by simp)) (by kernel_rfl) Hone.out ?_))
              have hw := heap_setCells_whole (cs := [Value.int .i64 0, .int .i64 0, .slice none 0 0]) [Value.int .i64 (ty : Int), .int .i64 (sq : Int), .slice ba n bc] rfl H5.out.1
              refine bodyPost_ret (results_row_tmp2 rfl _ _ w.heap.size _ _ _ _ rfl hw Tryd.underlying36 (by rfl) (by kernel_rfl)) (by rfl) ?_
              rw [Hg'.out]
              simp only []
              rw [Hf.out.1, Hf.out.2.1, Hf.out.2.2.1, Hf.out.2.2.2]
              exact ⟨ba, bc, ret_tup3 rfl (by show Value.int .i64 ((n : Int) + 11) = Value.int .i64 ((n + 11 : Nat) : Int); go_num) rfl, (Sl.farCells _ Hbn.out _ _ H5.out.2.2).more (by rw [size_setCells]; exact Nat.le_refl _), below_setCells' _ (Nat.le_refl _) _ _ H5.out.2.1, Hbb.out⟩
            · rw [decide_eq_false hr]
              have hg := Hg2.out
              rw [if_pos (by simpa using hr)] at hg
              have Hg' := Lib.hid hg
              clear hg Hg2 hr
              go_wp2_with (first
                | (refine wpList_store_mid (by rfl) 36 (.tmp 2) (.tmp 57) (by rfl) w.heap.size 0 #[.int .i64 0, .int .i64 0, .slice none 0 0] (by rfl) (by rfl) (there_of_block H5.out.1 (by simp)) (by kernel_rfl) zero_cells ?_))
              have hw := heap_setCells_whole (cs := [Value.int .i64 0, .int .i64 0, .slice none 0 0]) [Value.int .i64 0, .int .i64 0, .slice none 0 0] rfl H5.out.1
              refine bodyPost_ret (results_row_tmp2 rfl _ _ w.heap.size _ _ _ _ rfl hw Tryd.underlying36 (by rfl) (by kernel_rfl)) (by rfl) ?_
              rw [Hg'.out]
              exact getPost_zero rfl (below_setCells' _ (Nat.le_refl _) _ _ H5.out.2.1)
        · have r1 : ((z1 : Int) != (z2 : Int)) = true := by simp; omega
          have hg0 := Hg.out
          rw [if_pos hz] at hg0
          have Hg2 := Lib.hid hg0
          clear hg0 Hg hz R37 Hr Hbody S7
          go_enter Tryd.func40, Tryd.ntmps40
          go_wp2_with fail
          refine RD.out.mono ?_
          rintro e w1 ⟨rfl, rfl⟩
          clear RD H
          go_wp2_with fail
          rw [← HW.out]
          refine wp_region_held_drew (S := fun w' => Below W.heap.size W w') (by kernel_rfl) (Below.drew (Below.refl _ _)) (fun hHeld => ?_)
          refine wpAnyH_take (i := 0) (v := ?_) rfl (by kernel_rfl) (by kernel_rfl) (by kernel_rfl) (fun _ _ _ h => h) (Or.inl ⟨by rfl, ?_⟩) (by assumption) ?_
          rotate_left
          · intro w hSw
            (try dsimp only at hSw)
            go_simp
            all_goals with_reducible rfl
          try simp only [Act.put, List.getElem_toArray, List.getElem_cons_succ, List.getElem_cons_zero, List.setIfInBounds_toArray, List.set_cons_zero, List.set_cons_succ]
          refine wpAnyH_take (i := 1) (v := ?_) rfl (by kernel_rfl) (by kernel_rfl) (by kernel_rfl) (fun _ _ _ h => h) (Or.inl ⟨by rfl, ?_⟩) (by assumption) ?_
          rotate_left
          · intro w hSw
            (try dsimp only at hSw)
            go_simp
            all_goals with_reducible rfl
          try simp only [Act.put, List.getElem_toArray, List.getElem_cons_succ, List.getElem_cons_zero, List.setIfInBounds_toArray, List.set_cons_zero, List.set_cons_succ]
          refine wpAnyH_take (i := 2) (v := ?_) rfl (by kernel_rfl) (by kernel_rfl) (by kernel_rfl) (fun _ _ _ h => h) (Or.inl ⟨by rfl, ?_⟩) (by assumption) ?_
          rotate_left
          · intro w hSw
            (try dsimp only at hSw)
            go_simp
            all_goals with_reducible rfl
          try simp only [Act.put, List.getElem_toArray, List.getElem_cons_succ, List.getElem_cons_zero, List.setIfInBounds_toArray, List.set_cons_zero, List.set_cons_succ]
          refine wpAnyH_take (i := 3) (v := ?_) rfl (by kernel_rfl) (by kernel_rfl) (by kernel_rfl) (fun _ _ _ h => h) (Or.inl ⟨by rfl, ?_⟩) (by assumption) ?_
          rotate_left
          · intro w hSw
            (try dsimp only at hSw)
            go_simp
            all_goals with_reducible rfl
          try simp only [Act.put, List.getElem_toArray, List.getElem_cons_succ, List.getElem_cons_zero, List.setIfInBounds_toArray, List.set_cons_zero, List.set_cons_succ]
          refine wpAnyH_take (i := 4) (v := ?_) rfl (by kernel_rfl) (by kernel_rfl) (by kernel_rfl) (fun _ _ _ h => h) (Or.inl ⟨by rfl, ?_⟩) (by assumption) ?_
          rotate_left
          · intro w hSw
            (try dsimp only at hSw)
            go_simp
            all_goals with_reducible rfl
          try simp only [Act.put, List.getElem_toArray, List.getElem_cons_succ, List.getElem_cons_zero, List.setIfInBounds_toArray, List.set_cons_zero, List.set_cons_succ]
          refine wpAnyH_take (i := 5) (v := ?_) rfl (by kernel_rfl) (by kernel_rfl) (by kernel_rfl) (fun _ _ _ h => h) (Or.inl ⟨by rfl, ?_⟩) (by assumption) ?_
          rotate_left
          · intro w hSw
            (try dsimp only at hSw)
            go_simp
            all_goals with_reducible rfl
          try simp only [Act.put, List.getElem_toArray, List.getElem_cons_succ, List.getElem_cons_zero, List.setIfInBounds_toArray, List.set_cons_zero, List.set_cons_succ]
          refine take_first (i := 6) rfl (by kernel_rfl) (by kernel_rfl) (by kernel_rfl) (fun _ _ _ h => h) (GivesIf.call (by rfl) (fun w => ?_) (fun w hS => RM.out w hS)) (by assumption) ?_
          · go_simp
            all_goals with_reducible rfl
          try simp only [Act.put, List.getElem_toArray, List.getElem_cons_succ, List.getElem_cons_zero, List.setIfInBounds_toArray, List.set_cons_zero, List.set_cons_succ]
          refine wpAnyH_take (i := 7) (v := ?_) rfl (by kernel_rfl) (by kernel_rfl) (by kernel_rfl) (fun _ _ _ h => h) (Or.inl ⟨by rfl, ?_⟩) (by assumption) ?_
          rotate_left
          · intro w hSw
            (try dsimp only at hSw)
            go_simp
            all_goals with_reducible rfl
          try simp only [Act.put, List.getElem_toArray, List.getElem_cons_succ, List.getElem_cons_zero, List.setIfInBounds_toArray, List.set_cons_zero, List.set_cons_succ]
          refine wpAnyH_take (i := 8) (v := ?_) rfl (by kernel_rfl) (by kernel_rfl) (by kernel_rfl) (fun _ _ _ h => h) (Or.inl ⟨by rfl, ?_⟩) (by assumption) ?_
          rotate_left
          · intro w hSw
            (try dsimp only at hSw)
            go_simp
            all_goals with_reducible rfl
          try simp only [Act.put, List.getElem_toArray, List.getElem_cons_succ, List.getElem_cons_zero, List.setIfInBounds_toArray, List.set_cons_zero, List.set_cons_succ]
          refine wpAnyH_take (i := 9) (v := ?_) rfl (by kernel_rfl) (by kernel_rfl) (by kernel_rfl) (fun _ _ _ h => h) (Or.inl ⟨by rfl, ?_⟩) (by assumption) ?_
          rotate_left
          · intro w hSw
            (try dsimp only at hSw)
            go_simp
            all_goals with_reducible rfl
          try simp only [Act.put, List.getElem_toArray, List.getElem_cons_succ, List.getElem_cons_zero, List.setIfInBounds_toArray, List.set_cons_zero, List.set_cons_succ]
          refine wpAnyH_take (i := 10) (v := ?_) rfl (by kernel_rfl) (by kernel_rfl) (by kernel_rfl) (fun _ _ _ h => h) (Or.inl ⟨by rfl, ?_⟩) (by assumption) ?_
          rotate_left
          · intro w hSw
            (try dsimp only at hSw)
            go_simp
            all_goals with_reducible rfl
          try simp only [Act.put, List.getElem_toArray, List.getElem_cons_succ, List.getElem_cons_zero, List.setIfInBounds_toArray, List.set_cons_zero, List.set_cons_succ]
          refine take_first (i := 11) rfl (by kernel_rfl) (by kernel_rfl) (by kernel_rfl) (fun _ _ _ h => h) (GivesIf.call (by rfl) (fun w => ?_) (fun w hS => RO.out w hS)) (by assumption) ?_
          · go_simp
            all_goals with_reducible rfl
          try simp only [Act.put, List.getElem_toArray, List.getElem_cons_succ, List.getElem_cons_zero, List.setIfInBounds_toArray, List.set_cons_zero, List.set_cons_succ]
          refine wpAnyH_take (i := 12) (v := ?_) rfl (by kernel_rfl) (by kernel_rfl) (by kernel_rfl) (fun _ _ _ h => h) (Or.inl ⟨by rfl, ?_⟩) (by assumption) ?_
          rotate_left
          · intro w hSw
            (try dsimp only at hSw)
            go_simp
            all_goals with_reducible rfl
          try simp only [Act.put, List.getElem_toArray, List.getElem_cons_succ, List.getElem_cons_zero, List.setIfInBounds_toArray, List.set_cons_zero, List.set_cons_succ]
          refine wpAnyH_take (i := 13) (v := ?_) rfl (by kernel_rfl) (by kernel_rfl) (by kernel_rfl) (fun _ _ _ h => h) (Or.inl ⟨by rfl, ?_⟩) (by assumption) ?_
          rotate_left
          · intro w hSw
            (try dsimp only at hSw)
            go_simp
            all_goals with_reducible rfl
          try simp only [Act.put, List.getElem_toArray, List.getElem_cons_succ, List.getElem_cons_zero, List.setIfInBounds_toArray, List.set_cons_zero, List.set_cons_succ]
          refine wpAnyH_done (by kernel_rfl) ?_ _
          clear RM RO hml hwz hHeld
          go_wp2_with (first
            | (refine wpList_store_mid (by rfl) 36 (.tmp 2) (.tmp 38) (by rfl) w.heap.size 0 #[.int .i64 0, .int .i64 0, .slice none 0 0] (by rfl) (by rfl) (there_of_block (w := W.drew) HbW.out.2 (by simp)) (by kernel_rfl) zero_cells ?_))
          have hw := heap_setCells_whole (w := W.drew) (cs := [Value.int .i64 0, .int .i64 0, .slice none 0 0]) [Value.int .i64 0, .int .i64 0, .slice none 0 0] rfl HbW.out.2
          refine bodyPost_ret (results_row_tmp2 rfl _ _ w.heap.size _ _ _ _ rfl hw Tryd.underlying36 (by rfl) (by kernel_rfl)) (by rfl) ?_
          rw [Hg2.out]
          exact getPost_zero rfl (below_setCells' _ (Nat.le_refl _) _ _ (Below.drew HbW.out.1))
end Go.Proofs.YtiiellclnmakpaaDoor
