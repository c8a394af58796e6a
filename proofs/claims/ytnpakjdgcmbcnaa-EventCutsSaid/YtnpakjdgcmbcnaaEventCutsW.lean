/- EventCuts: the walk. -/
import Derived.Test.YtnpakjdgcmbcnaaEvHe
import Derived.Deep.RegionHeld3
import Derived.Deep.CutRange
import Derived.Deep.DeepCutAuto
namespace Go.Proofs.Ytnpakjdgcmbcnaa
open Go.RowKit
open Wir Evn
attribute [local go_sem] Oper.semAt_some

theorem put_len {e : Ev} (h : Ev64 e) : (putR e).length ≤ 1800 := by
  unfold putR
  split
  · split
    · simp
    · omega
  · simp
theorem sl_one {w : World} {g : Nat} {m : Int} (h : w.heap[g]? = some (.cells #[.int .u8 m] 5 (0, 0))) (hm : 0 ≤ m ∧ m ≤ 255) : Sl w w.heap.size (some ⟨g, 0, none⟩) 1 1 [m.toNat] :=
  Sl.new (bs := [m.toNat]) h (by simp; omega) (by intro x hx; simp at hx; omega) 1 rfl (by simp [maxLen])
set_option linter.unusedSimpArgs false in
set_option maxRecDepth 100000 in
set_option maxHeartbeats 16000000 in
theorem eventCuts_walk {w : World} {a1 a2 a3 : Option Addr} {c1 c2 c3 : Nat} (e : Ev) (hm : EvM w a1 a2 a3 c1 c2 c3 e) (at_ : Int) (hat : 0 ≤ at_ ∧ at_ ≤ 65535) (m : Int) (hm8 : 0 ≤ m ∧ m ≤ 255) :
    Calls Try.prog 4 #[evV e a1 a2 a3 c1 c2 c3, .int .u16 at_, .int .u8 m] w fun r w' => r = .returned (.bool true) ∧ Below w.heap.size w w' := by
  have HM8 := Lib.hid hm8
  clear hm8
  have hbv := box_var hm
  have HB := Lib.hid hbv
  clear hbv hm
  unfold evV
  go_enter Try.func4, Try.ntmps4
  go_wp2_with fail
  refine (head_any _).mono ?_
  rintro r w1 ⟨rfl, h1⟩
  have V1 := Lib.hid (HB.out.1.on h1)
  have B1 := Lib.hid (bel2 HB.out.2 h1)
  clear h1 HB
  go_wp2_with (first | (refine wpList_load_row (by rfl) 30 (.tmp 3) (by rfl) w.heap.size (by rfl) 30 (evC e a1 a2 a3 c1 c2 c3) (0, 0) _ V1.out.cells Try.underlying30 (by rfl) (by kernel_rfl) ?_))
  refine (great_any e a1 a2 a3 c1 c2 c3 _).mono ?_
  rintro r w2 ⟨rfl, h2⟩
  have V2 := Lib.hid (V1.out.on h2)
  have B2 := Lib.hid (bel2 B1.out h2)
  clear h2 V1 B1
  cases hg : grtR e
  rotate_left
  · clear hg
    go_wp2
    go_ret
    exact ⟨rfl, B2.out⟩
  have hgr : e.pol.bands.length ≤ 60 ∧ e.pol.slots.length ≤ 60 ∧ e.body.length ≤ 3000 := by
    have := of_decide_eq_false hg
    omega
  have HG := Lib.hid hgr
  clear hg hgr
  go_wp2_with (first | (refine wpList_load_row (by rfl) 30 (.tmp 3) (by rfl) w.heap.size (by rfl) 30 (evC e a1 a2 a3 c1 c2 c3) (0, 0) _ V2.out.cells Try.underlying30 (by rfl) (by kernel_rfl) ?_))
  refine (put_any e V2.out.mem (by have := HG.out; omega) (by have := HG.out; omega) (by have := HG.out; omega)).mono ?_
  rintro r w4 ⟨pa, pc, rfl, hs4, hb4⟩
  have V4 := Lib.hid (V2.out.on hb4)
  have B4 := Lib.hid (bel2 B2.out hb4)
  have S4 := Lib.hid hs4
  clear hb4 hs4 V2 B2
  by_cases hz : (putR e).length = 0
  · have d0 : (((putR e).length : Int) == 0) = true := by simp [hz]
    go_wp2
    go_ret
    exact ⟨rfl, B4.out⟩
  have d0 : (((putR e).length : Int) == 0) = false := by simpa using hz
  have hr : rightR e = true := by
    cases hr : rightR e
    · exact absurd (by rw [put_wrong hr]; rfl) hz
    · rfl
  have hcode := put_right hr V4.out.mem.v64
  have hple := put_len V4.out.mem.v64
  have hpos : 0 < (putR e).length := by omega
  have hposI : (0 : Int) < ((putR e).length : Int) := by omega
  have HPL := Lib.hid hple
  have HK64 := Lib.hid (V4.out.mem.v64.nums e.kind (by simp))
  have HG2 := Lib.hid (show getR e.kind ([] ++ putR e ++ [m.toNat]) = (ofKind 0, 12) by rw [List.nil_append, hcode]; exact get_more hr V4.out.mem.v64 _)
  have HBM : Hid (∀ c ∈ ([] ++ putR e ++ [m.toNat] : List Nat), c < 256) := fun c hc => by
    rw [List.nil_append] at hc
    rcases List.mem_append.1 hc with h | h
    · exact S4.out.byte c h
    · simp at h; have := HM8.out; omega
  have hkb : 0 ≤ at_ % ((putR e).length : Int) ∧ at_ % ((putR e).length : Int) < ((putR e).length : Int) := ⟨Int.emod_nonneg _ (by omega), Int.emod_lt_of_pos _ hposI⟩
  obtain ⟨kk, hkk⟩ : ∃ kk : Nat, at_ % ((putR e).length : Int) = (kk : Int) := ⟨(at_ % ((putR e).length : Int)).toNat, by omega⟩
  have hkl : kk < (putR e).length := by omega
  have HKK := Lib.hid hkl
  have HG1 := Lib.hid (show getR e.kind ((putR e).take kk) = (ofKind 0, 13) by rw [hcode] at hkl ⊢; exact get_cut hr V4.out.mem.v64 hkl)
  have SC := Lib.hid (S4.out.take (k := kk) (by omega))
  have hcap := S4.out.le
  have cut : ∀ w, (Instr.slice 28 (.slice pa (putR e).length pc) none (some (.int .i64 (kk : Int))) none).run Try.prog w = .ok (.slice pa kk pc) w := run_cut_to (P := Try.prog) 28 5 Try.underlying28 info_u8 pa (putR e).length pc kk (by omega)
  have HSx : Hid (∀ x, Below w4.heap.size w4 x → x.cell? ⟨w.heap.size, 0, none⟩ = some (.int .i64 e.kind)) := fun x hb => evC_cell (V4.out.on hb).cells 0 _ rfl
  clear hcode hple hkb hr hcap hkl
  go_wp2_with fail
  rw [hkk]
  clear hpos hposI d0 hz hkk
  go_cut [10, 11] from 29 to 37 (fun q v wx => ∃ g x1 x2 x3 y1 y2 y3, q = .pointer (some ⟨g, 0, none⟩) ∧ v = .int .i64 13 ∧ EvAt wx g (ofKind 0) x1 x2 x3 y1 y2 y3 ∧ Below w4.heap.size w4 wx)
  case first =>
    refine wp_region_held_drew (S := fun x => x.cell? ⟨w.heap.size, 0, none⟩ = some (.int .i64 e.kind)) (by kernel_rfl) (HSx.out _ (Below.drew (Below.refl _ _))) (fun hHeld => ?_)
    have HB0 : Below w4.heap.size w4 w4.drew := Below.drew (Below.refl _ _)
    refine wpAnyH_take (i := 0) (v := ?_) rfl (by kernel_rfl) (by kernel_rfl) (by kernel_rfl) (fun _ _ _ h => h) (Or.inl ⟨by rfl, ?_⟩) (by assumption) ?_
    rotate_left
    · intro w hSw
      (try dsimp only at hSw)
      go_simp
      all_goals with_reducible rfl
    try simp only [Act.put, List.getElem_toArray, List.getElem_cons_succ, List.getElem_cons_zero, List.setIfInBounds_toArray, List.set_cons_zero, List.set_cons_succ]
    refine wpAnyH_take (i := 1) (v := ?_) rfl (by kernel_rfl) (by kernel_rfl) (by kernel_rfl) (fun _ _ _ h => h) (Or.inl ⟨by rfl, ?_⟩) (by assumption) ?_
    rotate_left
    · intro w hSw
      (try dsimp only at hSw)
      go_simp
      all_goals with_reducible rfl
    try simp only [Act.put, List.getElem_toArray, List.getElem_cons_succ, List.getElem_cons_zero, List.setIfInBounds_toArray, List.set_cons_zero, List.set_cons_succ]
    refine wpAnyH_take (i := 2) (v := ?_) rfl (by kernel_rfl) (by kernel_rfl) (by kernel_rfl) (fun _ _ _ h => h) (Or.inl ⟨by rfl, ?_⟩) (by assumption) ?_
    rotate_left
    · intro w hSw
      (try dsimp only at hSw)
      go_simp
      all_goals with_reducible rfl
    try simp only [Act.put, List.getElem_toArray, List.getElem_cons_succ, List.getElem_cons_zero, List.setIfInBounds_toArray, List.set_cons_zero, List.set_cons_succ]
    refine wpAnyH_take (i := 3) (v := ?_) rfl (by kernel_rfl) (by kernel_rfl) (by kernel_rfl) (fun _ _ _ h => h) (Or.inl ⟨by rfl, ?_⟩) (by assumption) ?_
    rotate_left
    · intro w hSw
      (try dsimp only at hSw)
      go_simp
      all_goals with_reducible rfl
    try simp only [Act.put, List.getElem_toArray, List.getElem_cons_succ, List.getElem_cons_zero, List.setIfInBounds_toArray, List.set_cons_zero, List.set_cons_succ]
    refine wpAnyH_take (i := 4) (v := ?_) rfl (by kernel_rfl) (by kernel_rfl) (by kernel_rfl) (fun _ _ _ h => h) (Or.inl ⟨by rfl, ?_⟩) (by assumption) ?_
    rotate_left
    · intro w hSw
      (try dsimp only at hSw)
      go_simp
      all_goals with_reducible rfl
    try simp only [Act.put, List.getElem_toArray, List.getElem_cons_succ, List.getElem_cons_zero, List.setIfInBounds_toArray, List.set_cons_zero, List.set_cons_succ]
    refine wpAnyH_ready (rs := [5, 9]) (by kernel_rfl) (by simp) ?_
    refine AllReadyH.cons rfl (fun K hK => ?_) (AllReadyH.cons rfl (fun K hK => ?_) AllReadyH.nil)
    · rw [if_pos (by rfl)]
      go_simp
      go_at_call 7
      refine (get_to HG1.out HK64.out ((SC.out.below HB0 (Nat.le_refl _)).more HB0.size) (by have := HPL.out; have := HKK.out; omega)).mono ?_
      rintro r x1 ⟨u1a, u1b, u1c, n1a, n1b, n1c, rfl, hm1, hy1⟩
      have HBx1 : Below w4.heap.size w4 x1 := HB0.trans (hy1.mono HB0.size)
      refine hK.out _ _ ?_ (fun hHeld => ?_)
      · exact HSx.out _ HBx1
      clear hK K
      try simp only [Act.put, List.getElem_toArray, List.getElem_cons_succ, List.getElem_cons_zero, List.setIfInBounds_toArray, List.set_cons_zero, List.set_cons_succ]
      refine wpAnyH_take (i := 6) (v := ?_) rfl (by kernel_rfl) (by kernel_rfl) (by kernel_rfl) (fun _ _ _ h => h) (Or.inl ⟨by rfl, ?_⟩) (by assumption) ?_
      rotate_left
      · intro w hSw
        (try dsimp only at hSw)
        go_simp
        all_goals with_reducible rfl
      try simp only [Act.put, List.getElem_toArray, List.getElem_cons_succ, List.getElem_cons_zero, List.setIfInBounds_toArray, List.set_cons_zero, List.set_cons_succ]
      refine wpAnyH_take (i := 7) (v := ?_) rfl (by kernel_rfl) (by kernel_rfl) (by kernel_rfl) (fun _ _ _ h => h) (Or.inl ⟨by rfl, ?_⟩) (by assumption) ?_
      rotate_left
      · intro w hSw
        (try dsimp only at hSw)
        go_simp
        all_goals with_reducible rfl
      try simp only [Act.put, List.getElem_toArray, List.getElem_cons_succ, List.getElem_cons_zero, List.setIfInBounds_toArray, List.set_cons_zero, List.set_cons_succ]
      refine wpAnyH_take (i := 8) (v := ?_) rfl (by kernel_rfl) (by kernel_rfl) (by kernel_rfl) (fun _ _ _ h => h) (Or.inl ⟨by rfl, ?_⟩) (by assumption) ?_
      rotate_left
      · intro w hSw
        (try dsimp only at hSw)
        go_simp
        all_goals with_reducible rfl
      try simp only [Act.put, List.getElem_toArray, List.getElem_cons_succ, List.getElem_cons_zero, List.setIfInBounds_toArray, List.set_cons_zero, List.set_cons_succ]
      refine wpAnyH_ready (rs := [9]) (by kernel_rfl) (by simp) ?_
      refine AllReadyH.cons rfl (fun K hK => ?_) AllReadyH.nil
      rw [if_pos (by rfl)]
      go_simp
      obtain ⟨x2, e2⟩ : ∃ x, x = x1.alloc (.cells #[.int .i64 0, .int .i64 0, .int .i64 0, .int .i64 0, .int .i64 0, .int .i64 0, .int .i64 0, .int .i64 0, .slice none 0 0, .int .i64 0, .int .i64 0, .int .i64 0, .int .i64 0, .slice none 0 0, .int .i64 0, .int .i64 0, .int .i64 0, .int .i64 0, .int .i64 0, .int .i64 0, .int .i64 0, .int .i64 0, .int .i64 0, .int .i64 0, .int .i64 0, .int .i64 0, .slice none 0 0] 30) := ⟨_, rfl⟩
      rw [← e2]
      have HBx2 : Below w4.heap.size w4 x2 := by rw [e2]; exact HBx1.alloc HBx1.size _
      have hn2 : x2.heap[x1.heap.size]? = some (.cells #[.int .i64 0, .int .i64 0, .int .i64 0, .int .i64 0, .int .i64 0, .int .i64 0, .int .i64 0, .int .i64 0, .slice none 0 0, .int .i64 0, .int .i64 0, .int .i64 0, .int .i64 0, .slice none 0 0, .int .i64 0, .int .i64 0, .int .i64 0, .int .i64 0, .int .i64 0, .int .i64 0, .int .i64 0, .int .i64 0, .int .i64 0, .int .i64 0, .int .i64 0, .int .i64 0, .slice none 0 0] 30 (0, 0)) := by rw [e2]; exact heap_alloc_new _ _
      have hm2 : EvM x2 u1a u1b u1c n1a n1b n1c (ofKind 0) := by rw [e2]; exact hm1.on (bel1 (Below.refl _ _) _)
      refine hK.out _ _ ?_ (fun hHeld => ?_)
      · exact HSx.out _ HBx2
      clear hK K
      try simp only [Act.put, List.getElem_toArray, List.getElem_cons_succ, List.getElem_cons_zero, List.setIfInBounds_toArray, List.set_cons_zero, List.set_cons_succ]
      refine wpAnyH_ready (rs := [10]) (by kernel_rfl) (by simp) ?_
      refine AllReadyH.cons rfl (fun K hK => ?_) AllReadyH.nil
      rw [if_pos (by rfl)]
      refine wp_store_mid 30 (.tmp 10) (.tmp 36) (by rfl) x1.heap.size 0 (evC (ofKind 0) u1a u1b u1c n1a n1b n1c) (by rfl) (by rfl) (there_of_block hn2 (Nat.le_refl 27)) (by kernel_rfl) (by kernel_rfl) ?_
      have HBf : Below w4.heap.size w4 (x2.setCells x1.heap.size 0 (evC (ofKind 0) u1a u1b u1c n1a n1b n1c).toList) := below_setCells' _ HBx1.size _ _ HBx2
      refine hK.out _ _ ?_ (fun hHeld => ?_)
      · exact HSx.out _ HBf
      clear hK K
      try simp only [Act.put, List.getElem_toArray, List.getElem_cons_succ, List.getElem_cons_zero, List.setIfInBounds_toArray, List.set_cons_zero, List.set_cons_succ]
      refine wpAnyH_take (i := 11) (v := ?_) rfl (by kernel_rfl) (by kernel_rfl) (by kernel_rfl) (fun _ _ _ h => h) (Or.inl ⟨by rfl, ?_⟩) (by assumption) ?_
      rotate_left
      · intro w hSw
        (try dsimp only at hSw)
        go_simp
        all_goals with_reducible rfl
      try simp only [Act.put, List.getElem_toArray, List.getElem_cons_succ, List.getElem_cons_zero, List.setIfInBounds_toArray, List.set_cons_zero, List.set_cons_succ]
      refine wpAnyH_done (by kernel_rfl) ?_ _
      go_wp2_with fail
      go_meet
      case rel => exact ⟨x1.heap.size, u1a, u1b, u1c, n1a, n1b, n1c, rfl, rfl, ⟨store27 hn2 rfl, ⟨hm2.bands.keep (but_setCells _ _ _ _) (fun h => absurd h (by decide)), hm2.slots.keep (but_setCells _ _ _ _) (fun h => absurd h (by decide)), hm2.body.same_ (but_setCells _ _ _ _).size (fun h => absurd h (by decide)), hm2.v64⟩⟩, HBf⟩
    · rw [if_pos (by rfl)]
      go_simp
      obtain ⟨x3, e3⟩ : ∃ x, x = (w4.alloc (.cells #[.int .i64 0, .int .i64 0, .int .i64 0, .int .i64 0, .int .i64 0, .int .i64 0, .int .i64 0, .int .i64 0, .slice none 0 0, .int .i64 0, .int .i64 0, .int .i64 0, .int .i64 0, .slice none 0 0, .int .i64 0, .int .i64 0, .int .i64 0, .int .i64 0, .int .i64 0, .int .i64 0, .int .i64 0, .int .i64 0, .int .i64 0, .int .i64 0, .int .i64 0, .int .i64 0, .slice none 0 0] 30)).drew := ⟨_, rfl⟩
      rw [← e3]
      have HBx3 : Below w4.heap.size w4 x3 := by rw [e3]; exact ((Below.refl w4.heap.size w4).alloc (Nat.le_refl _) _).drew
      have hn3 : x3.heap[w4.heap.size]? = some (.cells #[.int .i64 0, .int .i64 0, .int .i64 0, .int .i64 0, .int .i64 0, .int .i64 0, .int .i64 0, .int .i64 0, .slice none 0 0, .int .i64 0, .int .i64 0, .int .i64 0, .int .i64 0, .slice none 0 0, .int .i64 0, .int .i64 0, .int .i64 0, .int .i64 0, .int .i64 0, .int .i64 0, .int .i64 0, .int .i64 0, .int .i64 0, .int .i64 0, .int .i64 0, .int .i64 0, .slice none 0 0] 30 (0, 0)) := by rw [e3]; exact heap_alloc_new _ _
      clear e3
      refine hK.out _ _ ?_ (fun hHeld => ?_)
      · exact HSx.out _ HBx3
      clear hK K
      try simp only [Act.put, List.getElem_toArray, List.getElem_cons_succ, List.getElem_cons_zero, List.setIfInBounds_toArray, List.set_cons_zero, List.set_cons_succ]
      refine wpAnyH_ready (rs := [5]) (by kernel_rfl) (by simp) ?_
      refine AllReadyH.cons rfl (fun K hK => ?_) AllReadyH.nil
      rw [if_pos (by rfl)]
      go_simp
      go_at_call 7
      refine (get_to HG1.out HK64.out ((SC.out.below HBx3 (Nat.le_refl _)).more HBx3.size) (by have := HPL.out; have := HKK.out; omega)).mono ?_
      rintro r x4 ⟨u4a, u4b, u4c, n4a, n4b, n4c, rfl, hm4, hy4⟩
      have HBx4 : Below w4.heap.size w4 x4 := HBx3.trans (hy4.mono HBx3.size)
      have hz4 := (hy4.block _ (lt_of_heap hn3)).trans hn3
      refine hK.out _ _ ?_ (fun hHeld => ?_)
      · exact HSx.out _ HBx4
      clear hK K
      try simp only [Act.put, List.getElem_toArray, List.getElem_cons_succ, List.getElem_cons_zero, List.setIfInBounds_toArray, List.set_cons_zero, List.set_cons_succ]
      refine wpAnyH_take (i := 6) (v := ?_) rfl (by kernel_rfl) (by kernel_rfl) (by kernel_rfl) (fun _ _ _ h => h) (Or.inl ⟨by rfl, ?_⟩) (by assumption) ?_
      rotate_left
      · intro w hSw
        (try dsimp only at hSw)
        go_simp
        all_goals with_reducible rfl
      try simp only [Act.put, List.getElem_toArray, List.getElem_cons_succ, List.getElem_cons_zero, List.setIfInBounds_toArray, List.set_cons_zero, List.set_cons_succ]
      refine wpAnyH_take (i := 7) (v := ?_) rfl (by kernel_rfl) (by kernel_rfl) (by kernel_rfl) (fun _ _ _ h => h) (Or.inl ⟨by rfl, ?_⟩) (by assumption) ?_
      rotate_left
      · intro w hSw
        (try dsimp only at hSw)
        go_simp
        all_goals with_reducible rfl
      try simp only [Act.put, List.getElem_toArray, List.getElem_cons_succ, List.getElem_cons_zero, List.setIfInBounds_toArray, List.set_cons_zero, List.set_cons_succ]
      refine wpAnyH_take (i := 8) (v := ?_) rfl (by kernel_rfl) (by kernel_rfl) (by kernel_rfl) (fun _ _ _ h => h) (Or.inl ⟨by rfl, ?_⟩) (by assumption) ?_
      rotate_left
      · intro w hSw
        (try dsimp only at hSw)
        go_simp
        all_goals with_reducible rfl
      try simp only [Act.put, List.getElem_toArray, List.getElem_cons_succ, List.getElem_cons_zero, List.setIfInBounds_toArray, List.set_cons_zero, List.set_cons_succ]
      refine wpAnyH_ready (rs := [10]) (by kernel_rfl) (by simp) ?_
      refine AllReadyH.cons rfl (fun K hK => ?_) AllReadyH.nil
      rw [if_pos (by rfl)]
      refine wp_store_mid 30 (.tmp 10) (.tmp 36) (by rfl) w4.heap.size 0 (evC (ofKind 0) u4a u4b u4c n4a n4b n4c) (by rfl) (by rfl) (there_of_block hz4 (Nat.le_refl 27)) (by kernel_rfl) (by kernel_rfl) ?_
      have HBf : Below w4.heap.size w4 (x4.setCells w4.heap.size 0 (evC (ofKind 0) u4a u4b u4c n4a n4b n4c).toList) := below_setCells' _ (Nat.le_refl _) _ _ HBx4
      refine hK.out _ _ ?_ (fun hHeld => ?_)
      · exact HSx.out _ HBf
      clear hK K
      try simp only [Act.put, List.getElem_toArray, List.getElem_cons_succ, List.getElem_cons_zero, List.setIfInBounds_toArray, List.set_cons_zero, List.set_cons_succ]
      refine wpAnyH_take (i := 11) (v := ?_) rfl (by kernel_rfl) (by kernel_rfl) (by kernel_rfl) (fun _ _ _ h => h) (Or.inl ⟨by rfl, ?_⟩) (by assumption) ?_
      rotate_left
      · intro w hSw
        (try dsimp only at hSw)
        go_simp
        all_goals with_reducible rfl
      try simp only [Act.put, List.getElem_toArray, List.getElem_cons_succ, List.getElem_cons_zero, List.setIfInBounds_toArray, List.set_cons_zero, List.set_cons_succ]
      refine wpAnyH_done (by kernel_rfl) ?_ _
      go_wp2_with fail
      go_meet
      case rel => exact ⟨w4.heap.size, u4a, u4b, u4c, n4a, n4b, n4c, rfl, rfl, ⟨store27 hz4 rfl, ⟨hm4.bands.keep (but_setCells _ _ _ _) (fun h => absurd h (by decide)), hm4.slots.keep (but_setCells _ _ _ _) (fun h => absurd h (by decide)), hm4.body.same_ (but_setCells _ _ _ _).size (fun h => absurd h (by decide)), hm4.v64⟩⟩, HBf⟩
  case rest =>
    obtain ⟨g8, x1, x2, x3, y1, y2, y3, rfl, rfl, he8, hb8⟩ := hcut
    have X8 := Lib.hid he8
    have hV := V4.out.on hb8
    have hS := (S4.out.below hb8 (Nat.le_refl _)).more hb8.size
    have hB := bel2 B4.out hb8
    have hX : Hid (∀ x, Below wc.heap.size wc x → x.cell? ⟨w.heap.size, 0, none⟩ = some (.int .i64 e.kind)) := fun x hb => evC_cell (hV.on hb).cells 0 _ rfl
    clear V4 S4 B4 HSx cut
    have V4 := Lib.hid hV
    have S4 := Lib.hid hS
    have B4 := Lib.hid hB
    have HSx := hX
    clear hV hS hB hX he8 hb8
    go_wp2_with fail
    go_cut [12, 13] from 38 to 49 (fun q v wx => ∃ g x1 x2 x3 y1 y2 y3, q = .pointer (some ⟨g, 0, none⟩) ∧ v = .int .i64 12 ∧ EvAt wx g (ofKind 0) x1 x2 x3 y1 y2 y3 ∧ Below wc.heap.size wc wx)
    case first =>
      refine wp_region_held_drew (S := fun x => x.cell? ⟨w.heap.size, 0, none⟩ = some (.int .i64 e.kind)) (by kernel_rfl) (HSx.out _ (Below.drew (Below.refl _ _))) (fun hHeld => ?_)
      have HB0 : Below wc.heap.size wc wc.drew := Below.drew (Below.refl _ _)
      refine wpAnyH_take (i := 0) (v := ?_) rfl (by kernel_rfl) (by kernel_rfl) (by kernel_rfl) (fun _ _ _ h => h) (Or.inl ⟨by rfl, ?_⟩) (by assumption) ?_
      rotate_left
      · intro w hSw
        (try dsimp only at hSw)
        go_simp
        all_goals with_reducible rfl
      try simp only [Act.put, List.getElem_toArray, List.getElem_cons_succ, List.getElem_cons_zero, List.setIfInBounds_toArray, List.set_cons_zero, List.set_cons_succ]
      refine wpAnyH_take (i := 1) (v := ?_) rfl (by kernel_rfl) (by kernel_rfl) (by kernel_rfl) (fun _ _ _ h => h) (Or.inl ⟨by rfl, ?_⟩) (by assumption) ?_
      rotate_left
      · intro w hSw
        (try dsimp only at hSw)
        go_simp
        all_goals with_reducible rfl
      try simp only [Act.put, List.getElem_toArray, List.getElem_cons_succ, List.getElem_cons_zero, List.setIfInBounds_toArray, List.set_cons_zero, List.set_cons_succ]
      refine wpAnyH_take (i := 3) (v := ?_) rfl (by kernel_rfl) (by kernel_rfl) (by kernel_rfl) (fun _ _ _ h => h) (Or.inl ⟨by rfl, ?_⟩) (by assumption) ?_
      rotate_left
      · intro w hSw
        (try dsimp only at hSw)
        go_simp
        all_goals with_reducible rfl
      try simp only [Act.put, List.getElem_toArray, List.getElem_cons_succ, List.getElem_cons_zero, List.setIfInBounds_toArray, List.set_cons_zero, List.set_cons_succ]
      refine wpAnyH_take (i := 5) (v := ?_) rfl (by kernel_rfl) (by kernel_rfl) (by kernel_rfl) (fun _ _ _ h => h) (Or.inl ⟨by rfl, ?_⟩) (by assumption) ?_
      rotate_left
      · intro w hSw
        (try dsimp only at hSw)
        go_simp
        all_goals with_reducible rfl
      try simp only [Act.put, List.getElem_toArray, List.getElem_cons_succ, List.getElem_cons_zero, List.setIfInBounds_toArray, List.set_cons_zero, List.set_cons_succ]
      refine wpAnyH_ready (rs := [2, 6, 12]) (by kernel_rfl) (by simp) ?_
      refine AllReadyH.cons rfl (fun K hK => ?_) (AllReadyH.cons rfl (fun K hK => ?_) (AllReadyH.cons rfl (fun K hK => ?_) AllReadyH.nil))
      · rw [if_pos (by rfl)]
        go_simp
        obtain ⟨x5, e5⟩ : ∃ x, x = (wc.alloc (.cells #[] 5)).drew := ⟨_, rfl⟩
        rw [← e5]
        have HBx5 : Below wc.heap.size wc x5 := by rw [e5]; exact ((Below.refl wc.heap.size wc).alloc (Nat.le_refl _) _).drew
        have hn5 : x5.heap[wc.heap.size]? = some (.cells #[] 5 (0, 0)) := by rw [e5]; exact heap_alloc_new _ _
        have hq5 : OwnB x5 wc.heap.size 5 (.slice (some ⟨wc.heap.size, 0, none⟩) 0 0) [] := by rw [e5]; exact OwnB.lit _ [] (Nat.le_refl _) (by decide)
        clear e5
        refine hK.out _ _ ?_ (fun hHeld => ?_)
        · exact HSx.out _ HBx5
        clear hK K
        try simp only [Act.put, List.getElem_toArray, List.getElem_cons_succ, List.getElem_cons_zero, List.setIfInBounds_toArray, List.set_cons_zero, List.set_cons_succ]
        refine wpAnyH_ready (rs := [4, 6, 12]) (by kernel_rfl) (by simp) ?_
        refine AllReadyH.cons rfl (fun K hK => ?_) (AllReadyH.cons rfl (fun K hK => ?_) (AllReadyH.cons rfl (fun K hK => ?_) AllReadyH.nil))
        · rw [if_pos (by rfl)]
          refine wp_append_sl (.tmp 41) (.tmp 42) 28 rfl wc.heap.size _ Try.underlying28 info_u8 (.slice (some ⟨wc.heap.size, 0, none⟩) 0 0) [] (by rfl) hq5 _ pa (putR e).length pc (putR e) (by rfl) ((S4.out.below HBx5 (Nat.le_refl _)).more HBx5.size) (by have := HPL.out; simp; omega) HBx5.size ?_
          intro v6 x6 ho6 hg6 hw6
          have HBx6 : Below wc.heap.size wc x6 := HBx5.grown hg6 HBx5.size (fun k hk => (hq5.at_base hk).1)
          refine hK.out _ _ ?_ (fun hHeld => ?_)
          · exact HSx.out _ HBx6
          clear hK K
          try simp only [Act.put, List.getElem_toArray, List.getElem_cons_succ, List.getElem_cons_zero, List.setIfInBounds_toArray, List.set_cons_zero, List.set_cons_succ]
          refine wpAnyH_ready (rs := [6, 12]) (by kernel_rfl) (by simp) ?_
          refine AllReadyH.cons rfl (fun K hK => ?_) (AllReadyH.cons rfl (fun K hK => ?_) AllReadyH.nil)
          · rw [if_pos (by rfl)]
            go_simp
            obtain ⟨x7, e7⟩ : ∃ x, x = x6.alloc (.cells #[.int .u8 m] 5) := ⟨_, rfl⟩
            rw [← e7]
            have HBx7 : Below wc.heap.size wc x7 := by rw [e7]; exact HBx6.alloc HBx6.size _
            have hn7 : x7.heap[x6.heap.size]? = some (.cells #[.int .u8 m] 5 (0, 0)) := by rw [e7]; exact heap_alloc_new _ _
            have ho7 : OwnB x7 wc.heap.size 5 v6 ([] ++ putR e) := by rw [e7]; exact ho6.alloc _
            have nehl : (v6 : Value).ownBlock ≠ some x6.heap.size := fun e => by have h1 := (ho6.at_base e).2; omega
            clear e7
            refine hK.out _ _ ?_ (fun hHeld => ?_)
            · exact HSx.out _ HBx7
            clear hK K
            try simp only [Act.put, List.getElem_toArray, List.getElem_cons_succ, List.getElem_cons_zero, List.setIfInBounds_toArray, List.set_cons_zero, List.set_cons_succ]
            refine wpAnyH_ready (rs := [7, 12]) (by kernel_rfl) (by simp) ?_
            refine AllReadyH.cons rfl (fun K hK => ?_) (AllReadyH.cons rfl (fun K hK => ?_) AllReadyH.nil)
            · rw [if_pos (by rfl)]
              refine wp_append_sl (.tmp 43) (.tmp 45) 28 rfl wc.heap.size _ Try.underlying28 info_u8 v6 ([] ++ putR e) (by rfl) ho7 _ (some ⟨x6.heap.size, 0, none⟩) 1 1 [m.toNat] (by rfl) (sl_one hn7 HM8.out) (by have := HPL.out; simp; omega) HBx7.size ?_
              intro v8 x8 ho8 hg8 hw8
              have HBx8 : Below wc.heap.size wc x8 := HBx7.grown hg8 HBx7.size (fun k hk => (ho7.at_base hk).1)
              refine hK.out _ _ ?_ (fun hHeld => ?_)
              · exact HSx.out _ HBx8
              clear hK K
              try simp only [Act.put, List.getElem_toArray, List.getElem_cons_succ, List.getElem_cons_zero, List.setIfInBounds_toArray, List.set_cons_zero, List.set_cons_succ]
              refine wpAnyH_ready (rs := [8, 12]) (by kernel_rfl) (by simp) ?_
              refine AllReadyH.cons rfl (fun K hK => ?_) (AllReadyH.cons rfl (fun K hK => ?_) AllReadyH.nil)
              · rw [if_pos (by rfl)]
                obtain ⟨ga9, gc9, hv9, hs9⟩ := ho8.sl HBM.out
                have hl9 : ([] ++ putR e ++ [m.toNat]).length ≤ 1000000 := by have := HPL.out; simp; omega
                have hG9 := HG2.out
                generalize [] ++ putR e ++ [m.toNat] = BS at hv9 hs9 hl9 hG9
                subst hv9
                go_simp
                go_at_call 7
                refine (get_to hG9 HK64.out hs9 hl9).mono ?_
                rintro r x9 ⟨u9a, u9b, u9c, n9a, n9b, n9c, rfl, hm9, hy9⟩
                have HBx9 : Below wc.heap.size wc x9 := HBx8.trans (hy9.mono HBx8.size)
                refine hK.out _ _ ?_ (fun hHeld => ?_)
                · exact HSx.out _ HBx9
                clear hK K
                try simp only [Act.put, List.getElem_toArray, List.getElem_cons_succ, List.getElem_cons_zero, List.setIfInBounds_toArray, List.set_cons_zero, List.set_cons_succ]
                refine wpAnyH_take (i := 9) (v := ?_) rfl (by kernel_rfl) (by kernel_rfl) (by kernel_rfl) (fun _ _ _ h => h) (Or.inl ⟨by rfl, ?_⟩) (by assumption) ?_
                rotate_left
                · intro w hSw
                  (try dsimp only at hSw)
                  go_simp
                  all_goals with_reducible rfl
                try simp only [Act.put, List.getElem_toArray, List.getElem_cons_succ, List.getElem_cons_zero, List.setIfInBounds_toArray, List.set_cons_zero, List.set_cons_succ]
                refine wpAnyH_take (i := 10) (v := ?_) rfl (by kernel_rfl) (by kernel_rfl) (by kernel_rfl) (fun _ _ _ h => h) (Or.inl ⟨by rfl, ?_⟩) (by assumption) ?_
                rotate_left
                · intro w hSw
                  (try dsimp only at hSw)
                  go_simp
                  all_goals with_reducible rfl
                try simp only [Act.put, List.getElem_toArray, List.getElem_cons_succ, List.getElem_cons_zero, List.setIfInBounds_toArray, List.set_cons_zero, List.set_cons_succ]
                refine wpAnyH_take (i := 11) (v := ?_) rfl (by kernel_rfl) (by kernel_rfl) (by kernel_rfl) (fun _ _ _ h => h) (Or.inl ⟨by rfl, ?_⟩) (by assumption) ?_
                rotate_left
                · intro w hSw
                  (try dsimp only at hSw)
                  go_simp
                  all_goals with_reducible rfl
                try simp only [Act.put, List.getElem_toArray, List.getElem_cons_succ, List.getElem_cons_zero, List.setIfInBounds_toArray, List.set_cons_zero, List.set_cons_succ]
                refine wpAnyH_ready (rs := [12]) (by kernel_rfl) (by simp) ?_
                refine AllReadyH.cons rfl (fun K hK => ?_) AllReadyH.nil
                rw [if_pos (by rfl)]
                go_simp
                obtain ⟨x10, e10⟩ : ∃ x, x = x9.alloc (.cells #[.int .i64 0, .int .i64 0, .int .i64 0, .int .i64 0, .int .i64 0, .int .i64 0, .int .i64 0, .int .i64 0, .slice none 0 0, .int .i64 0, .int .i64 0, .int .i64 0, .int .i64 0, .slice none 0 0, .int .i64 0, .int .i64 0, .int .i64 0, .int .i64 0, .int .i64 0, .int .i64 0, .int .i64 0, .int .i64 0, .int .i64 0, .int .i64 0, .int .i64 0, .int .i64 0, .slice none 0 0] 30) := ⟨_, rfl⟩
                rw [← e10]
                have HBx10 : Below wc.heap.size wc x10 := by rw [e10]; exact HBx9.alloc HBx9.size _
                have hn10 : x10.heap[x9.heap.size]? = some (.cells #[.int .i64 0, .int .i64 0, .int .i64 0, .int .i64 0, .int .i64 0, .int .i64 0, .int .i64 0, .int .i64 0, .slice none 0 0, .int .i64 0, .int .i64 0, .int .i64 0, .int .i64 0, .slice none 0 0, .int .i64 0, .int .i64 0, .int .i64 0, .int .i64 0, .int .i64 0, .int .i64 0, .int .i64 0, .int .i64 0, .int .i64 0, .int .i64 0, .int .i64 0, .int .i64 0, .slice none 0 0] 30 (0, 0)) := by rw [e10]; exact heap_alloc_new _ _
                have hm10 : EvM x10 u9a u9b u9c n9a n9b n9c (ofKind 0) := by rw [e10]; exact hm9.on (bel1 (Below.refl _ _) _)
                refine hK.out _ _ ?_ (fun hHeld => ?_)
                · exact HSx.out _ HBx10
                clear hK K
                try simp only [Act.put, List.getElem_toArray, List.getElem_cons_succ, List.getElem_cons_zero, List.setIfInBounds_toArray, List.set_cons_zero, List.set_cons_succ]
                refine wpAnyH_ready (rs := [13]) (by kernel_rfl) (by simp) ?_
                refine AllReadyH.cons rfl (fun K hK => ?_) AllReadyH.nil
                rw [if_pos (by rfl)]
                refine wp_store_mid 30 (.tmp 12) (.tmp 48) (by rfl) x9.heap.size 0 (evC (ofKind 0) u9a u9b u9c n9a n9b n9c) (by rfl) (by rfl) (there_of_block hn10 (Nat.le_refl 27)) (by kernel_rfl) (by kernel_rfl) ?_
                have HBf : Below wc.heap.size wc (x10.setCells x9.heap.size 0 (evC (ofKind 0) u9a u9b u9c n9a n9b n9c).toList) := below_setCells' _ HBx9.size _ _ HBx10
                refine hK.out _ _ ?_ (fun hHeld => ?_)
                · exact HSx.out _ HBf
                clear hK K
                try simp only [Act.put, List.getElem_toArray, List.getElem_cons_succ, List.getElem_cons_zero, List.setIfInBounds_toArray, List.set_cons_zero, List.set_cons_succ]
                refine wpAnyH_take (i := 14) (v := ?_) rfl (by kernel_rfl) (by kernel_rfl) (by kernel_rfl) (fun _ _ _ h => h) (Or.inl ⟨by rfl, ?_⟩) (by assumption) ?_
                rotate_left
                · intro w hSw
                  (try dsimp only at hSw)
                  go_simp
                  all_goals with_reducible rfl
                try simp only [Act.put, List.getElem_toArray, List.getElem_cons_succ, List.getElem_cons_zero, List.setIfInBounds_toArray, List.set_cons_zero, List.set_cons_succ]
                refine wpAnyH_done (by kernel_rfl) ?_ _
                go_wp2_with fail
                go_meet
                case rel => exact ⟨x9.heap.size, u9a, u9b, u9c, n9a, n9b, n9c, rfl, rfl, ⟨store27 hn10 rfl, ⟨hm10.bands.keep (but_setCells _ _ _ _) (fun h => absurd h (by decide)), hm10.slots.keep (but_setCells _ _ _ _) (fun h => absurd h (by decide)), hm10.body.same_ (but_setCells _ _ _ _).size (fun h => absurd h (by decide)), hm10.v64⟩⟩, HBf⟩
              · rw [if_pos (by rfl)]
                go_simp
                obtain ⟨x11, e11⟩ : ∃ x, x = x8.alloc (.cells #[.int .i64 0, .int .i64 0, .int .i64 0, .int .i64 0, .int .i64 0, .int .i64 0, .int .i64 0, .int .i64 0, .slice none 0 0, .int .i64 0, .int .i64 0, .int .i64 0, .int .i64 0, .slice none 0 0, .int .i64 0, .int .i64 0, .int .i64 0, .int .i64 0, .int .i64 0, .int .i64 0, .int .i64 0, .int .i64 0, .int .i64 0, .int .i64 0, .int .i64 0, .int .i64 0, .slice none 0 0] 30) := ⟨_, rfl⟩
                rw [← e11]
                have HBx11 : Below wc.heap.size wc x11 := by rw [e11]; exact HBx8.alloc HBx8.size _
                have hn11 : x11.heap[x8.heap.size]? = some (.cells #[.int .i64 0, .int .i64 0, .int .i64 0, .int .i64 0, .int .i64 0, .int .i64 0, .int .i64 0, .int .i64 0, .slice none 0 0, .int .i64 0, .int .i64 0, .int .i64 0, .int .i64 0, .slice none 0 0, .int .i64 0, .int .i64 0, .int .i64 0, .int .i64 0, .int .i64 0, .int .i64 0, .int .i64 0, .int .i64 0, .int .i64 0, .int .i64 0, .int .i64 0, .int .i64 0, .slice none 0 0] 30 (0, 0)) := by rw [e11]; exact heap_alloc_new _ _
                have ho11 : OwnB x11 wc.heap.size 5 v8 ([] ++ putR e ++ [m.toNat]) := by rw [e11]; exact ho8.alloc _
                have nehz : (v8 : Value).ownBlock ≠ some x8.heap.size := fun e => by have h1 := (ho8.at_base e).2; omega
                clear e11
                refine hK.out _ _ ?_ (fun hHeld => ?_)
                · exact HSx.out _ HBx11
                clear hK K
                try simp only [Act.put, List.getElem_toArray, List.getElem_cons_succ, List.getElem_cons_zero, List.setIfInBounds_toArray, List.set_cons_zero, List.set_cons_succ]
                refine wpAnyH_ready (rs := [8]) (by kernel_rfl) (by simp) ?_
                refine AllReadyH.cons rfl (fun K hK => ?_) AllReadyH.nil
                rw [if_pos (by rfl)]
                obtain ⟨ga12, gc12, hv12, hs12⟩ := ho11.sl HBM.out
                have hl12 : ([] ++ putR e ++ [m.toNat]).length ≤ 1000000 := by have := HPL.out; simp; omega
                have hG12 := HG2.out
                generalize [] ++ putR e ++ [m.toNat] = BS at hv12 hs12 hl12 hG12
                subst hv12
                go_simp
                go_at_call 7
                refine (get_to hG12 HK64.out hs12 hl12).mono ?_
                rintro r x12 ⟨u12a, u12b, u12c, n12a, n12b, n12c, rfl, hm12, hy12⟩
                have HBx12 : Below wc.heap.size wc x12 := HBx11.trans (hy12.mono HBx11.size)
                have hz12 := (hy12.block _ (lt_of_heap hn11)).trans hn11
                refine hK.out _ _ ?_ (fun hHeld => ?_)
                · exact HSx.out _ HBx12
                clear hK K
                try simp only [Act.put, List.getElem_toArray, List.getElem_cons_succ, List.getElem_cons_zero, List.setIfInBounds_toArray, List.set_cons_zero, List.set_cons_succ]
                refine wpAnyH_take (i := 9) (v := ?_) rfl (by kernel_rfl) (by kernel_rfl) (by kernel_rfl) (fun _ _ _ h => h) (Or.inl ⟨by rfl, ?_⟩) (by assumption) ?_
                rotate_left
                · intro w hSw
                  (try dsimp only at hSw)
                  go_simp
                  all_goals with_reducible rfl
                try simp only [Act.put, List.getElem_toArray, List.getElem_cons_succ, List.getElem_cons_zero, List.setIfInBounds_toArray, List.set_cons_zero, List.set_cons_succ]
                refine wpAnyH_take (i := 10) (v := ?_) rfl (by kernel_rfl) (by kernel_rfl) (by kernel_rfl) (fun _ _ _ h => h) (Or.inl ⟨by rfl, ?_⟩) (by assumption) ?_
                rotate_left
                · intro w hSw
                  (try dsimp only at hSw)
                  go_simp
                  all_goals with_reducible rfl
                try simp only [Act.put, List.getElem_toArray, List.getElem_cons_succ, List.getElem_cons_zero, List.setIfInBounds_toArray, List.set_cons_zero, List.set_cons_succ]
                refine wpAnyH_take (i := 11) (v := ?_) rfl (by kernel_rfl) (by kernel_rfl) (by kernel_rfl) (fun _ _ _ h => h) (Or.inl ⟨by rfl, ?_⟩) (by assumption) ?_
                rotate_left
                · intro w hSw
                  (try dsimp only at hSw)
                  go_simp
                  all_goals with_reducible rfl
                try simp only [Act.put, List.getElem_toArray, List.getElem_cons_succ, List.getElem_cons_zero, List.setIfInBounds_toArray, List.set_cons_zero, List.set_cons_succ]
                refine wpAnyH_ready (rs := [13]) (by kernel_rfl) (by simp) ?_
                refine AllReadyH.cons rfl (fun K hK => ?_) AllReadyH.nil
                rw [if_pos (by rfl)]
                refine wp_store_mid 30 (.tmp 12) (.tmp 48) (by rfl) x8.heap.size 0 (evC (ofKind 0) u12a u12b u12c n12a n12b n12c) (by rfl) (by rfl) (there_of_block hz12 (Nat.le_refl 27)) (by kernel_rfl) (by kernel_rfl) ?_
                have HBf : Below wc.heap.size wc (x12.setCells x8.heap.size 0 (evC (ofKind 0) u12a u12b u12c n12a n12b n12c).toList) := below_setCells' _ HBx8.size _ _ HBx12
                refine hK.out _ _ ?_ (fun hHeld => ?_)
                · exact HSx.out _ HBf
                clear hK K
                try simp only [Act.put, List.getElem_toArray, List.getElem_cons_succ, List.getElem_cons_zero, List.setIfInBounds_toArray, List.set_cons_zero, List.set_cons_succ]
                refine wpAnyH_take (i := 14) (v := ?_) rfl (by kernel_rfl) (by kernel_rfl) (by kernel_rfl) (fun _ _ _ h => h) (Or.inl ⟨by rfl, ?_⟩) (by assumption) ?_
                rotate_left
                · intro w hSw
                  (try dsimp only at hSw)
                  go_simp
                  all_goals with_reducible rfl
                try simp only [Act.put, List.getElem_toArray, List.getElem_cons_succ, List.getElem_cons_zero, List.setIfInBounds_toArray, List.set_cons_zero, List.set_cons_succ]
                refine wpAnyH_done (by kernel_rfl) ?_ _
                go_wp2_with fail
                go_meet
                case rel => exact ⟨x8.heap.size, u12a, u12b, u12c, n12a, n12b, n12c, rfl, rfl, ⟨store27 hz12 rfl, ⟨hm12.bands.keep (but_setCells _ _ _ _) (fun h => absurd h (by decide)), hm12.slots.keep (but_setCells _ _ _ _) (fun h => absurd h (by decide)), hm12.body.same_ (but_setCells _ _ _ _).size (fun h => absurd h (by decide)), hm12.v64⟩⟩, HBf⟩
            · rw [if_pos (by rfl)]
              go_simp
              obtain ⟨x13, e13⟩ : ∃ x, x = x7.alloc (.cells #[.int .i64 0, .int .i64 0, .int .i64 0, .int .i64 0, .int .i64 0, .int .i64 0, .int .i64 0, .int .i64 0, .slice none 0 0, .int .i64 0, .int .i64 0, .int .i64 0, .int .i64 0, .slice none 0 0, .int .i64 0, .int .i64 0, .int .i64 0, .int .i64 0, .int .i64 0, .int .i64 0, .int .i64 0, .int .i64 0, .int .i64 0, .int .i64 0, .int .i64 0, .int .i64 0, .slice none 0 0] 30) := ⟨_, rfl⟩
              rw [← e13]
              have HBx13 : Below wc.heap.size wc x13 := by rw [e13]; exact HBx7.alloc HBx7.size _
              have hn13 : x13.heap[x7.heap.size]? = some (.cells #[.int .i64 0, .int .i64 0, .int .i64 0, .int .i64 0, .int .i64 0, .int .i64 0, .int .i64 0, .int .i64 0, .slice none 0 0, .int .i64 0, .int .i64 0, .int .i64 0, .int .i64 0, .slice none 0 0, .int .i64 0, .int .i64 0, .int .i64 0, .int .i64 0, .int .i64 0, .int .i64 0, .int .i64 0, .int .i64 0, .int .i64 0, .int .i64 0, .int .i64 0, .int .i64 0, .slice none 0 0] 30 (0, 0)) := by rw [e13]; exact heap_alloc_new _ _
              have ho13 : OwnB x13 wc.heap.size 5 v6 ([] ++ putR e) := by rw [e13]; exact ho7.alloc _
              have hl13 : x13.heap[x6.heap.size]? = some (.cells #[.int .u8 m] 5 (0, 0)) := by rw [e13]; exact (heap_alloc_old _ _ (lt_of_heap hn7)).trans hn7
              have nehz : (v6 : Value).ownBlock ≠ some x7.heap.size := fun e => by have h1 := (ho7.at_base e).2; omega
              clear e13
              refine hK.out _ _ ?_ (fun hHeld => ?_)
              · exact HSx.out _ HBx13
              clear hK K
              try simp only [Act.put, List.getElem_toArray, List.getElem_cons_succ, List.getElem_cons_zero, List.setIfInBounds_toArray, List.set_cons_zero, List.set_cons_succ]
              refine wpAnyH_ready (rs := [7]) (by kernel_rfl) (by simp) ?_
              refine AllReadyH.cons rfl (fun K hK => ?_) AllReadyH.nil
              rw [if_pos (by rfl)]
              refine wp_append_sl (.tmp 43) (.tmp 45) 28 rfl wc.heap.size _ Try.underlying28 info_u8 v6 ([] ++ putR e) (by rfl) ho13 _ (some ⟨x6.heap.size, 0, none⟩) 1 1 [m.toNat] (by rfl) (sl_one hl13 HM8.out) (by have := HPL.out; simp; omega) HBx13.size ?_
              intro v14 x14 ho14 hg14 hw14
              have HBx14 : Below wc.heap.size wc x14 := HBx13.grown hg14 HBx13.size (fun k hk => (ho13.at_base hk).1)
              have hz14 := (hg14.block _ (lt_of_heap hn13) (fun e => nehz e.symm)).trans hn13
              have nf14 : v14.ownBlock ≠ some x7.heap.size := fun e => by rcases hw14 with h1 | h1; exact nehz (h1.symm.trans e); have h2 := lt_of_heap hn13; rw [h1] at e; injection e with e; omega
              clear nehz
              have nehz := nf14
              clear nf14
              refine hK.out _ _ ?_ (fun hHeld => ?_)
              · exact HSx.out _ HBx14
              clear hK K
              try simp only [Act.put, List.getElem_toArray, List.getElem_cons_succ, List.getElem_cons_zero, List.setIfInBounds_toArray, List.set_cons_zero, List.set_cons_succ]
              refine wpAnyH_ready (rs := [8]) (by kernel_rfl) (by simp) ?_
              refine AllReadyH.cons rfl (fun K hK => ?_) AllReadyH.nil
              rw [if_pos (by rfl)]
              obtain ⟨ga15, gc15, hv15, hs15⟩ := ho14.sl HBM.out
              have hl15 : ([] ++ putR e ++ [m.toNat]).length ≤ 1000000 := by have := HPL.out; simp; omega
              have hG15 := HG2.out
              generalize [] ++ putR e ++ [m.toNat] = BS at hv15 hs15 hl15 hG15
              subst hv15
              go_simp
              go_at_call 7
              refine (get_to hG15 HK64.out hs15 hl15).mono ?_
              rintro r x15 ⟨u15a, u15b, u15c, n15a, n15b, n15c, rfl, hm15, hy15⟩
              have HBx15 : Below wc.heap.size wc x15 := HBx14.trans (hy15.mono HBx14.size)
              have hz15 := (hy15.block _ (lt_of_heap hz14)).trans hz14
              refine hK.out _ _ ?_ (fun hHeld => ?_)
              · exact HSx.out _ HBx15
              clear hK K
              try simp only [Act.put, List.getElem_toArray, List.getElem_cons_succ, List.getElem_cons_zero, List.setIfInBounds_toArray, List.set_cons_zero, List.set_cons_succ]
              refine wpAnyH_take (i := 9) (v := ?_) rfl (by kernel_rfl) (by kernel_rfl) (by kernel_rfl) (fun _ _ _ h => h) (Or.inl ⟨by rfl, ?_⟩) (by assumption) ?_
              rotate_left
              · intro w hSw
                (try dsimp only at hSw)
                go_simp
                all_goals with_reducible rfl
              try simp only [Act.put, List.getElem_toArray, List.getElem_cons_succ, List.getElem_cons_zero, List.setIfInBounds_toArray, List.set_cons_zero, List.set_cons_succ]
              refine wpAnyH_take (i := 10) (v := ?_) rfl (by kernel_rfl) (by kernel_rfl) (by kernel_rfl) (fun _ _ _ h => h) (Or.inl ⟨by rfl, ?_⟩) (by assumption) ?_
              rotate_left
              · intro w hSw
                (try dsimp only at hSw)
                go_simp
                all_goals with_reducible rfl
              try simp only [Act.put, List.getElem_toArray, List.getElem_cons_succ, List.getElem_cons_zero, List.setIfInBounds_toArray, List.set_cons_zero, List.set_cons_succ]
              refine wpAnyH_take (i := 11) (v := ?_) rfl (by kernel_rfl) (by kernel_rfl) (by kernel_rfl) (fun _ _ _ h => h) (Or.inl ⟨by rfl, ?_⟩) (by assumption) ?_
              rotate_left
              · intro w hSw
                (try dsimp only at hSw)
                go_simp
                all_goals with_reducible rfl
              try simp only [Act.put, List.getElem_toArray, List.getElem_cons_succ, List.getElem_cons_zero, List.setIfInBounds_toArray, List.set_cons_zero, List.set_cons_succ]
              refine wpAnyH_ready (rs := [13]) (by kernel_rfl) (by simp) ?_
              refine AllReadyH.cons rfl (fun K hK => ?_) AllReadyH.nil
              rw [if_pos (by rfl)]
              refine wp_store_mid 30 (.tmp 12) (.tmp 48) (by rfl) x7.heap.size 0 (evC (ofKind 0) u15a u15b u15c n15a n15b n15c) (by rfl) (by rfl) (there_of_block hz15 (Nat.le_refl 27)) (by kernel_rfl) (by kernel_rfl) ?_
              have HBf : Below wc.heap.size wc (x15.setCells x7.heap.size 0 (evC (ofKind 0) u15a u15b u15c n15a n15b n15c).toList) := below_setCells' _ HBx7.size _ _ HBx15
              refine hK.out _ _ ?_ (fun hHeld => ?_)
              · exact HSx.out _ HBf
              clear hK K
              try simp only [Act.put, List.getElem_toArray, List.getElem_cons_succ, List.getElem_cons_zero, List.setIfInBounds_toArray, List.set_cons_zero, List.set_cons_succ]
              refine wpAnyH_take (i := 14) (v := ?_) rfl (by kernel_rfl) (by kernel_rfl) (by kernel_rfl) (fun _ _ _ h => h) (Or.inl ⟨by rfl, ?_⟩) (by assumption) ?_
              rotate_left
              · intro w hSw
                (try dsimp only at hSw)
                go_simp
                all_goals with_reducible rfl
              try simp only [Act.put, List.getElem_toArray, List.getElem_cons_succ, List.getElem_cons_zero, List.setIfInBounds_toArray, List.set_cons_zero, List.set_cons_succ]
              refine wpAnyH_done (by kernel_rfl) ?_ _
              go_wp2_with fail
              go_meet
              case rel => exact ⟨x7.heap.size, u15a, u15b, u15c, n15a, n15b, n15c, rfl, rfl, ⟨store27 hz15 rfl, ⟨hm15.bands.keep (but_setCells _ _ _ _) (fun h => absurd h (by decide)), hm15.slots.keep (but_setCells _ _ _ _) (fun h => absurd h (by decide)), hm15.body.same_ (but_setCells _ _ _ _).size (fun h => absurd h (by decide)), hm15.v64⟩⟩, HBf⟩
          · rw [if_pos (by rfl)]
            go_simp
            obtain ⟨x16, e16⟩ : ∃ x, x = x6.alloc (.cells #[.int .i64 0, .int .i64 0, .int .i64 0, .int .i64 0, .int .i64 0, .int .i64 0, .int .i64 0, .int .i64 0, .slice none 0 0, .int .i64 0, .int .i64 0, .int .i64 0, .int .i64 0, .slice none 0 0, .int .i64 0, .int .i64 0, .int .i64 0, .int .i64 0, .int .i64 0, .int .i64 0, .int .i64 0, .int .i64 0, .int .i64 0, .int .i64 0, .int .i64 0, .int .i64 0, .slice none 0 0] 30) := ⟨_, rfl⟩
            rw [← e16]
            have HBx16 : Below wc.heap.size wc x16 := by rw [e16]; exact HBx6.alloc HBx6.size _
            have hn16 : x16.heap[x6.heap.size]? = some (.cells #[.int .i64 0, .int .i64 0, .int .i64 0, .int .i64 0, .int .i64 0, .int .i64 0, .int .i64 0, .int .i64 0, .slice none 0 0, .int .i64 0, .int .i64 0, .int .i64 0, .int .i64 0, .slice none 0 0, .int .i64 0, .int .i64 0, .int .i64 0, .int .i64 0, .int .i64 0, .int .i64 0, .int .i64 0, .int .i64 0, .int .i64 0, .int .i64 0, .int .i64 0, .int .i64 0, .slice none 0 0] 30 (0, 0)) := by rw [e16]; exact heap_alloc_new _ _
            have ho16 : OwnB x16 wc.heap.size 5 v6 ([] ++ putR e) := by rw [e16]; exact ho6.alloc _
            have nehz : (v6 : Value).ownBlock ≠ some x6.heap.size := fun e => by have h1 := (ho6.at_base e).2; omega
            clear e16
            refine hK.out _ _ ?_ (fun hHeld => ?_)
            · exact HSx.out _ HBx16
            clear hK K
            try simp only [Act.put, List.getElem_toArray, List.getElem_cons_succ, List.getElem_cons_zero, List.setIfInBounds_toArray, List.set_cons_zero, List.set_cons_succ]
            refine wpAnyH_ready (rs := [6]) (by kernel_rfl) (by simp) ?_
            refine AllReadyH.cons rfl (fun K hK => ?_) AllReadyH.nil
            rw [if_pos (by rfl)]
            go_simp
            obtain ⟨x17, e17⟩ : ∃ x, x = x16.alloc (.cells #[.int .u8 m] 5) := ⟨_, rfl⟩
            rw [← e17]
            have HBx17 : Below wc.heap.size wc x17 := by rw [e17]; exact HBx16.alloc HBx16.size _
            have hn17 : x17.heap[x16.heap.size]? = some (.cells #[.int .u8 m] 5 (0, 0)) := by rw [e17]; exact heap_alloc_new _ _
            have ho17 : OwnB x17 wc.heap.size 5 v6 ([] ++ putR e) := by rw [e17]; exact ho16.alloc _
            have hz17 : x17.heap[x6.heap.size]? = some (.cells #[.int .i64 0, .int .i64 0, .int .i64 0, .int .i64 0, .int .i64 0, .int .i64 0, .int .i64 0, .int .i64 0, .slice none 0 0, .int .i64 0, .int .i64 0, .int .i64 0, .int .i64 0, .slice none 0 0, .int .i64 0, .int .i64 0, .int .i64 0, .int .i64 0, .int .i64 0, .int .i64 0, .int .i64 0, .int .i64 0, .int .i64 0, .int .i64 0, .int .i64 0, .int .i64 0, .slice none 0 0] 30 (0, 0)) := by rw [e17]; exact (heap_alloc_old _ _ (lt_of_heap hn16)).trans hn16
            have nehl : (v6 : Value).ownBlock ≠ some x16.heap.size := fun e => by have h1 := (ho16.at_base e).2; omega
            clear e17
            refine hK.out _ _ ?_ (fun hHeld => ?_)
            · exact HSx.out _ HBx17
            clear hK K
            try simp only [Act.put, List.getElem_toArray, List.getElem_cons_succ, List.getElem_cons_zero, List.setIfInBounds_toArray, List.set_cons_zero, List.set_cons_succ]
            refine wpAnyH_ready (rs := [7]) (by kernel_rfl) (by simp) ?_
            refine AllReadyH.cons rfl (fun K hK => ?_) AllReadyH.nil
            rw [if_pos (by rfl)]
            refine wp_append_sl (.tmp 43) (.tmp 45) 28 rfl wc.heap.size _ Try.underlying28 info_u8 v6 ([] ++ putR e) (by rfl) ho17 _ (some ⟨x16.heap.size, 0, none⟩) 1 1 [m.toNat] (by rfl) (sl_one hn17 HM8.out) (by have := HPL.out; simp; omega) HBx17.size ?_
            intro v18 x18 ho18 hg18 hw18
            have HBx18 : Below wc.heap.size wc x18 := HBx17.grown hg18 HBx17.size (fun k hk => (ho17.at_base hk).1)
            have hz18 := (hg18.block _ (lt_of_heap hz17) (fun e => nehz e.symm)).trans hz17
            have nf18 : v18.ownBlock ≠ some x6.heap.size := fun e => by rcases hw18 with h1 | h1; exact nehz (h1.symm.trans e); have h2 := lt_of_heap hz17; rw [h1] at e; injection e with e; omega
            clear nehz
            have nehz := nf18
            clear nf18
            refine hK.out _ _ ?_ (fun hHeld => ?_)
            · exact HSx.out _ HBx18
            clear hK K
            try simp only [Act.put, List.getElem_toArray, List.getElem_cons_succ, List.getElem_cons_zero, List.setIfInBounds_toArray, List.set_cons_zero, List.set_cons_succ]
            refine wpAnyH_ready (rs := [8]) (by kernel_rfl) (by simp) ?_
            refine AllReadyH.cons rfl (fun K hK => ?_) AllReadyH.nil
            rw [if_pos (by rfl)]
            obtain ⟨ga19, gc19, hv19, hs19⟩ := ho18.sl HBM.out
            have hl19 : ([] ++ putR e ++ [m.toNat]).length ≤ 1000000 := by have := HPL.out; simp; omega
            have hG19 := HG2.out
            generalize [] ++ putR e ++ [m.toNat] = BS at hv19 hs19 hl19 hG19
            subst hv19
            go_simp
            go_at_call 7
            refine (get_to hG19 HK64.out hs19 hl19).mono ?_
            rintro r x19 ⟨u19a, u19b, u19c, n19a, n19b, n19c, rfl, hm19, hy19⟩
            have HBx19 : Below wc.heap.size wc x19 := HBx18.trans (hy19.mono HBx18.size)
            have hz19 := (hy19.block _ (lt_of_heap hz18)).trans hz18
            refine hK.out _ _ ?_ (fun hHeld => ?_)
            · exact HSx.out _ HBx19
            clear hK K
            try simp only [Act.put, List.getElem_toArray, List.getElem_cons_succ, List.getElem_cons_zero, List.setIfInBounds_toArray, List.set_cons_zero, List.set_cons_succ]
            refine wpAnyH_take (i := 9) (v := ?_) rfl (by kernel_rfl) (by kernel_rfl) (by kernel_rfl) (fun _ _ _ h => h) (Or.inl ⟨by rfl, ?_⟩) (by assumption) ?_
            rotate_left
            · intro w hSw
              (try dsimp only at hSw)
              go_simp
              all_goals with_reducible rfl
            try simp only [Act.put, List.getElem_toArray, List.getElem_cons_succ, List.getElem_cons_zero, List.setIfInBounds_toArray, List.set_cons_zero, List.set_cons_succ]
            refine wpAnyH_take (i := 10) (v := ?_) rfl (by kernel_rfl) (by kernel_rfl) (by kernel_rfl) (fun _ _ _ h => h) (Or.inl ⟨by rfl, ?_⟩) (by assumption) ?_
            rotate_left
            · intro w hSw
              (try dsimp only at hSw)
              go_simp
              all_goals with_reducible rfl
            try simp only [Act.put, List.getElem_toArray, List.getElem_cons_succ, List.getElem_cons_zero, List.setIfInBounds_toArray, List.set_cons_zero, List.set_cons_succ]
            refine wpAnyH_take (i := 11) (v := ?_) rfl (by kernel_rfl) (by kernel_rfl) (by kernel_rfl) (fun _ _ _ h => h) (Or.inl ⟨by rfl, ?_⟩) (by assumption) ?_
            rotate_left
            · intro w hSw
              (try dsimp only at hSw)
              go_simp
              all_goals with_reducible rfl
            try simp only [Act.put, List.getElem_toArray, List.getElem_cons_succ, List.getElem_cons_zero, List.setIfInBounds_toArray, List.set_cons_zero, List.set_cons_succ]
            refine wpAnyH_ready (rs := [13]) (by kernel_rfl) (by simp) ?_
            refine AllReadyH.cons rfl (fun K hK => ?_) AllReadyH.nil
            rw [if_pos (by rfl)]
            refine wp_store_mid 30 (.tmp 12) (.tmp 48) (by rfl) x6.heap.size 0 (evC (ofKind 0) u19a u19b u19c n19a n19b n19c) (by rfl) (by rfl) (there_of_block hz19 (Nat.le_refl 27)) (by kernel_rfl) (by kernel_rfl) ?_
            have HBf : Below wc.heap.size wc (x19.setCells x6.heap.size 0 (evC (ofKind 0) u19a u19b u19c n19a n19b n19c).toList) := below_setCells' _ HBx6.size _ _ HBx19
            refine hK.out _ _ ?_ (fun hHeld => ?_)
            · exact HSx.out _ HBf
            clear hK K
            try simp only [Act.put, List.getElem_toArray, List.getElem_cons_succ, List.getElem_cons_zero, List.setIfInBounds_toArray, List.set_cons_zero, List.set_cons_succ]
            refine wpAnyH_take (i := 14) (v := ?_) rfl (by kernel_rfl) (by kernel_rfl) (by kernel_rfl) (fun _ _ _ h => h) (Or.inl ⟨by rfl, ?_⟩) (by assumption) ?_
            rotate_left
            · intro w hSw
              (try dsimp only at hSw)
              go_simp
              all_goals with_reducible rfl
            try simp only [Act.put, List.getElem_toArray, List.getElem_cons_succ, List.getElem_cons_zero, List.setIfInBounds_toArray, List.set_cons_zero, List.set_cons_succ]
            refine wpAnyH_done (by kernel_rfl) ?_ _
            go_wp2_with fail
            go_meet
            case rel => exact ⟨x6.heap.size, u19a, u19b, u19c, n19a, n19b, n19c, rfl, rfl, ⟨store27 hz19 rfl, ⟨hm19.bands.keep (but_setCells _ _ _ _) (fun h => absurd h (by decide)), hm19.slots.keep (but_setCells _ _ _ _) (fun h => absurd h (by decide)), hm19.body.same_ (but_setCells _ _ _ _).size (fun h => absurd h (by decide)), hm19.v64⟩⟩, HBf⟩
        · rw [if_pos (by rfl)]
          go_simp
          obtain ⟨x20, e20⟩ : ∃ x, x = x5.alloc (.cells #[.int .u8 m] 5) := ⟨_, rfl⟩
          rw [← e20]
          have HBx20 : Below wc.heap.size wc x20 := by rw [e20]; exact HBx5.alloc HBx5.size _
          have hn20 : x20.heap[x5.heap.size]? = some (.cells #[.int .u8 m] 5 (0, 0)) := by rw [e20]; exact heap_alloc_new _ _
          have ho20 : OwnB x20 wc.heap.size 5 (.slice (some ⟨wc.heap.size, 0, none⟩) 0 0) [] := by rw [e20]; exact hq5.alloc _
          have nehl : ((Value.slice (some ⟨wc.heap.size, 0, none⟩) 0 0) : Value).ownBlock ≠ some x5.heap.size := fun e => by have h1 := (hq5.at_base e).2; omega
          clear e20
          refine hK.out _ _ ?_ (fun hHeld => ?_)
          · exact HSx.out _ HBx20
          clear hK K
          try simp only [Act.put, List.getElem_toArray, List.getElem_cons_succ, List.getElem_cons_zero, List.setIfInBounds_toArray, List.set_cons_zero, List.set_cons_succ]
          refine wpAnyH_ready (rs := [4, 12]) (by kernel_rfl) (by simp) ?_
          refine AllReadyH.cons rfl (fun K hK => ?_) (AllReadyH.cons rfl (fun K hK => ?_) AllReadyH.nil)
          · rw [if_pos (by rfl)]
            refine wp_append_sl (.tmp 41) (.tmp 42) 28 rfl wc.heap.size _ Try.underlying28 info_u8 (.slice (some ⟨wc.heap.size, 0, none⟩) 0 0) [] (by rfl) ho20 _ pa (putR e).length pc (putR e) (by rfl) ((S4.out.below HBx20 (Nat.le_refl _)).more HBx20.size) (by have := HPL.out; simp; omega) HBx20.size ?_
            intro v21 x21 ho21 hg21 hw21
            have HBx21 : Below wc.heap.size wc x21 := HBx20.grown hg21 HBx20.size (fun k hk => (ho20.at_base hk).1)
            have hl21 := (hg21.block _ (lt_of_heap hn20) (fun e => nehl e.symm)).trans hn20
            have nf21 : v21.ownBlock ≠ some x5.heap.size := fun e => by rcases hw21 with h1 | h1; exact nehl (h1.symm.trans e); have h2 := lt_of_heap hn20; rw [h1] at e; injection e with e; omega
            clear nehl
            have nehl := nf21
            clear nf21
            refine hK.out _ _ ?_ (fun hHeld => ?_)
            · exact HSx.out _ HBx21
            clear hK K
            try simp only [Act.put, List.getElem_toArray, List.getElem_cons_succ, List.getElem_cons_zero, List.setIfInBounds_toArray, List.set_cons_zero, List.set_cons_succ]
            refine wpAnyH_ready (rs := [7, 12]) (by kernel_rfl) (by simp) ?_
            refine AllReadyH.cons rfl (fun K hK => ?_) (AllReadyH.cons rfl (fun K hK => ?_) AllReadyH.nil)
            · rw [if_pos (by rfl)]
              refine wp_append_sl (.tmp 43) (.tmp 45) 28 rfl wc.heap.size _ Try.underlying28 info_u8 v21 ([] ++ putR e) (by rfl) ho21 _ (some ⟨x5.heap.size, 0, none⟩) 1 1 [m.toNat] (by rfl) (sl_one hl21 HM8.out) (by have := HPL.out; simp; omega) HBx21.size ?_
              intro v22 x22 ho22 hg22 hw22
              have HBx22 : Below wc.heap.size wc x22 := HBx21.grown hg22 HBx21.size (fun k hk => (ho21.at_base hk).1)
              refine hK.out _ _ ?_ (fun hHeld => ?_)
              · exact HSx.out _ HBx22
              clear hK K
              try simp only [Act.put, List.getElem_toArray, List.getElem_cons_succ, List.getElem_cons_zero, List.setIfInBounds_toArray, List.set_cons_zero, List.set_cons_succ]
              refine wpAnyH_ready (rs := [8, 12]) (by kernel_rfl) (by simp) ?_
              refine AllReadyH.cons rfl (fun K hK => ?_) (AllReadyH.cons rfl (fun K hK => ?_) AllReadyH.nil)
              · rw [if_pos (by rfl)]
                obtain ⟨ga23, gc23, hv23, hs23⟩ := ho22.sl HBM.out
                have hl23 : ([] ++ putR e ++ [m.toNat]).length ≤ 1000000 := by have := HPL.out; simp; omega
                have hG23 := HG2.out
                generalize [] ++ putR e ++ [m.toNat] = BS at hv23 hs23 hl23 hG23
                subst hv23
                go_simp
                go_at_call 7
                refine (get_to hG23 HK64.out hs23 hl23).mono ?_
                rintro r x23 ⟨u23a, u23b, u23c, n23a, n23b, n23c, rfl, hm23, hy23⟩
                have HBx23 : Below wc.heap.size wc x23 := HBx22.trans (hy23.mono HBx22.size)
                refine hK.out _ _ ?_ (fun hHeld => ?_)
                · exact HSx.out _ HBx23
                clear hK K
                try simp only [Act.put, List.getElem_toArray, List.getElem_cons_succ, List.getElem_cons_zero, List.setIfInBounds_toArray, List.set_cons_zero, List.set_cons_succ]
                refine wpAnyH_take (i := 9) (v := ?_) rfl (by kernel_rfl) (by kernel_rfl) (by kernel_rfl) (fun _ _ _ h => h) (Or.inl ⟨by rfl, ?_⟩) (by assumption) ?_
                rotate_left
                · intro w hSw
                  (try dsimp only at hSw)
                  go_simp
                  all_goals with_reducible rfl
                try simp only [Act.put, List.getElem_toArray, List.getElem_cons_succ, List.getElem_cons_zero, List.setIfInBounds_toArray, List.set_cons_zero, List.set_cons_succ]
                refine wpAnyH_take (i := 10) (v := ?_) rfl (by kernel_rfl) (by kernel_rfl) (by kernel_rfl) (fun _ _ _ h => h) (Or.inl ⟨by rfl, ?_⟩) (by assumption) ?_
                rotate_left
                · intro w hSw
                  (try dsimp only at hSw)
                  go_simp
                  all_goals with_reducible rfl
                try simp only [Act.put, List.getElem_toArray, List.getElem_cons_succ, List.getElem_cons_zero, List.setIfInBounds_toArray, List.set_cons_zero, List.set_cons_succ]
                refine wpAnyH_take (i := 11) (v := ?_) rfl (by kernel_rfl) (by kernel_rfl) (by kernel_rfl) (fun _ _ _ h => h) (Or.inl ⟨by rfl, ?_⟩) (by assumption) ?_
                rotate_left
                · intro w hSw
                  (try dsimp only at hSw)
                  go_simp
                  all_goals with_reducible rfl
                try simp only [Act.put, List.getElem_toArray, List.getElem_cons_succ, List.getElem_cons_zero, List.setIfInBounds_toArray, List.set_cons_zero, List.set_cons_succ]
                refine wpAnyH_ready (rs := [12]) (by kernel_rfl) (by simp) ?_
                refine AllReadyH.cons rfl (fun K hK => ?_) AllReadyH.nil
                rw [if_pos (by rfl)]
                go_simp
                obtain ⟨x24, e24⟩ : ∃ x, x = x23.alloc (.cells #[.int .i64 0, .int .i64 0, .int .i64 0, .int .i64 0, .int .i64 0, .int .i64 0, .int .i64 0, .int .i64 0, .slice none 0 0, .int .i64 0, .int .i64 0, .int .i64 0, .int .i64 0, .slice none 0 0, .int .i64 0, .int .i64 0, .int .i64 0, .int .i64 0, .int .i64 0, .int .i64 0, .int .i64 0, .int .i64 0, .int .i64 0, .int .i64 0, .int .i64 0, .int .i64 0, .slice none 0 0] 30) := ⟨_, rfl⟩
                rw [← e24]
                have HBx24 : Below wc.heap.size wc x24 := by rw [e24]; exact HBx23.alloc HBx23.size _
                have hn24 : x24.heap[x23.heap.size]? = some (.cells #[.int .i64 0, .int .i64 0, .int .i64 0, .int .i64 0, .int .i64 0, .int .i64 0, .int .i64 0, .int .i64 0, .slice none 0 0, .int .i64 0, .int .i64 0, .int .i64 0, .int .i64 0, .slice none 0 0, .int .i64 0, .int .i64 0, .int .i64 0, .int .i64 0, .int .i64 0, .int .i64 0, .int .i64 0, .int .i64 0, .int .i64 0, .int .i64 0, .int .i64 0, .int .i64 0, .slice none 0 0] 30 (0, 0)) := by rw [e24]; exact heap_alloc_new _ _
                have hm24 : EvM x24 u23a u23b u23c n23a n23b n23c (ofKind 0) := by rw [e24]; exact hm23.on (bel1 (Below.refl _ _) _)
                refine hK.out _ _ ?_ (fun hHeld => ?_)
                · exact HSx.out _ HBx24
                clear hK K
                try simp only [Act.put, List.getElem_toArray, List.getElem_cons_succ, List.getElem_cons_zero, List.setIfInBounds_toArray, List.set_cons_zero, List.set_cons_succ]
                refine wpAnyH_ready (rs := [13]) (by kernel_rfl) (by simp) ?_
                refine AllReadyH.cons rfl (fun K hK => ?_) AllReadyH.nil
                rw [if_pos (by rfl)]
                refine wp_store_mid 30 (.tmp 12) (.tmp 48) (by rfl) x23.heap.size 0 (evC (ofKind 0) u23a u23b u23c n23a n23b n23c) (by rfl) (by rfl) (there_of_block hn24 (Nat.le_refl 27)) (by kernel_rfl) (by kernel_rfl) ?_
                have HBf : Below wc.heap.size wc (x24.setCells x23.heap.size 0 (evC (ofKind 0) u23a u23b u23c n23a n23b n23c).toList) := below_setCells' _ HBx23.size _ _ HBx24
                refine hK.out _ _ ?_ (fun hHeld => ?_)
                · exact HSx.out _ HBf
                clear hK K
                try simp only [Act.put, List.getElem_toArray, List.getElem_cons_succ, List.getElem_cons_zero, List.setIfInBounds_toArray, List.set_cons_zero, List.set_cons_succ]
                refine wpAnyH_take (i := 14) (v := ?_) rfl (by kernel_rfl) (by kernel_rfl) (by kernel_rfl) (fun _ _ _ h => h) (Or.inl ⟨by rfl, ?_⟩) (by assumption) ?_
                rotate_left
                · intro w hSw
                  (try dsimp only at hSw)
                  go_simp
                  all_goals with_reducible rfl
                try simp only [Act.put, List.getElem_toArray, List.getElem_cons_succ, List.getElem_cons_zero, List.setIfInBounds_toArray, List.set_cons_zero, List.set_cons_succ]
                refine wpAnyH_done (by kernel_rfl) ?_ _
                go_wp2_with fail
                go_meet
                case rel => exact ⟨x23.heap.size, u23a, u23b, u23c, n23a, n23b, n23c, rfl, rfl, ⟨store27 hn24 rfl, ⟨hm24.bands.keep (but_setCells _ _ _ _) (fun h => absurd h (by decide)), hm24.slots.keep (but_setCells _ _ _ _) (fun h => absurd h (by decide)), hm24.body.same_ (but_setCells _ _ _ _).size (fun h => absurd h (by decide)), hm24.v64⟩⟩, HBf⟩
              · rw [if_pos (by rfl)]
                go_simp
                obtain ⟨x25, e25⟩ : ∃ x, x = x22.alloc (.cells #[.int .i64 0, .int .i64 0, .int .i64 0, .int .i64 0, .int .i64 0, .int .i64 0, .int .i64 0, .int .i64 0, .slice none 0 0, .int .i64 0, .int .i64 0, .int .i64 0, .int .i64 0, .slice none 0 0, .int .i64 0, .int .i64 0, .int .i64 0, .int .i64 0, .int .i64 0, .int .i64 0, .int .i64 0, .int .i64 0, .int .i64 0, .int .i64 0, .int .i64 0, .int .i64 0, .slice none 0 0] 30) := ⟨_, rfl⟩
                rw [← e25]
                have HBx25 : Below wc.heap.size wc x25 := by rw [e25]; exact HBx22.alloc HBx22.size _
                have hn25 : x25.heap[x22.heap.size]? = some (.cells #[.int .i64 0, .int .i64 0, .int .i64 0, .int .i64 0, .int .i64 0, .int .i64 0, .int .i64 0, .int .i64 0, .slice none 0 0, .int .i64 0, .int .i64 0, .int .i64 0, .int .i64 0, .slice none 0 0, .int .i64 0, .int .i64 0, .int .i64 0, .int .i64 0, .int .i64 0, .int .i64 0, .int .i64 0, .int .i64 0, .int .i64 0, .int .i64 0, .int .i64 0, .int .i64 0, .slice none 0 0] 30 (0, 0)) := by rw [e25]; exact heap_alloc_new _ _
                have ho25 : OwnB x25 wc.heap.size 5 v22 ([] ++ putR e ++ [m.toNat]) := by rw [e25]; exact ho22.alloc _
                have nehz : (v22 : Value).ownBlock ≠ some x22.heap.size := fun e => by have h1 := (ho22.at_base e).2; omega
                clear e25
                refine hK.out _ _ ?_ (fun hHeld => ?_)
                · exact HSx.out _ HBx25
                clear hK K
                try simp only [Act.put, List.getElem_toArray, List.getElem_cons_succ, List.getElem_cons_zero, List.setIfInBounds_toArray, List.set_cons_zero, List.set_cons_succ]
                refine wpAnyH_ready (rs := [8]) (by kernel_rfl) (by simp) ?_
                refine AllReadyH.cons rfl (fun K hK => ?_) AllReadyH.nil
                rw [if_pos (by rfl)]
                obtain ⟨ga26, gc26, hv26, hs26⟩ := ho25.sl HBM.out
                have hl26 : ([] ++ putR e ++ [m.toNat]).length ≤ 1000000 := by have := HPL.out; simp; omega
                have hG26 := HG2.out
                generalize [] ++ putR e ++ [m.toNat] = BS at hv26 hs26 hl26 hG26
                subst hv26
                go_simp
                go_at_call 7
                refine (get_to hG26 HK64.out hs26 hl26).mono ?_
                rintro r x26 ⟨u26a, u26b, u26c, n26a, n26b, n26c, rfl, hm26, hy26⟩
                have HBx26 : Below wc.heap.size wc x26 := HBx25.trans (hy26.mono HBx25.size)
                have hz26 := (hy26.block _ (lt_of_heap hn25)).trans hn25
                refine hK.out _ _ ?_ (fun hHeld => ?_)
                · exact HSx.out _ HBx26
                clear hK K
                try simp only [Act.put, List.getElem_toArray, List.getElem_cons_succ, List.getElem_cons_zero, List.setIfInBounds_toArray, List.set_cons_zero, List.set_cons_succ]
                refine wpAnyH_take (i := 9) (v := ?_) rfl (by kernel_rfl) (by kernel_rfl) (by kernel_rfl) (fun _ _ _ h => h) (Or.inl ⟨by rfl, ?_⟩) (by assumption) ?_
                rotate_left
                · intro w hSw
                  (try dsimp only at hSw)
                  go_simp
                  all_goals with_reducible rfl
                try simp only [Act.put, List.getElem_toArray, List.getElem_cons_succ, List.getElem_cons_zero, List.setIfInBounds_toArray, List.set_cons_zero, List.set_cons_succ]
                refine wpAnyH_take (i := 10) (v := ?_) rfl (by kernel_rfl) (by kernel_rfl) (by kernel_rfl) (fun _ _ _ h => h) (Or.inl ⟨by rfl, ?_⟩) (by assumption) ?_
                rotate_left
                · intro w hSw
                  (try dsimp only at hSw)
                  go_simp
                  all_goals with_reducible rfl
                try simp only [Act.put, List.getElem_toArray, List.getElem_cons_succ, List.getElem_cons_zero, List.setIfInBounds_toArray, List.set_cons_zero, List.set_cons_succ]
                refine wpAnyH_take (i := 11) (v := ?_) rfl (by kernel_rfl) (by kernel_rfl) (by kernel_rfl) (fun _ _ _ h => h) (Or.inl ⟨by rfl, ?_⟩) (by assumption) ?_
                rotate_left
                · intro w hSw
                  (try dsimp only at hSw)
                  go_simp
                  all_goals with_reducible rfl
                try simp only [Act.put, List.getElem_toArray, List.getElem_cons_succ, List.getElem_cons_zero, List.setIfInBounds_toArray, List.set_cons_zero, List.set_cons_succ]
                refine wpAnyH_ready (rs := [13]) (by kernel_rfl) (by simp) ?_
                refine AllReadyH.cons rfl (fun K hK => ?_) AllReadyH.nil
                rw [if_pos (by rfl)]
                refine wp_store_mid 30 (.tmp 12) (.tmp 48) (by rfl) x22.heap.size 0 (evC (ofKind 0) u26a u26b u26c n26a n26b n26c) (by rfl) (by rfl) (there_of_block hz26 (Nat.le_refl 27)) (by kernel_rfl) (by kernel_rfl) ?_
                have HBf : Below wc.heap.size wc (x26.setCells x22.heap.size 0 (evC (ofKind 0) u26a u26b u26c n26a n26b n26c).toList) := below_setCells' _ HBx22.size _ _ HBx26
                refine hK.out _ _ ?_ (fun hHeld => ?_)
                · exact HSx.out _ HBf
                clear hK K
                try simp only [Act.put, List.getElem_toArray, List.getElem_cons_succ, List.getElem_cons_zero, List.setIfInBounds_toArray, List.set_cons_zero, List.set_cons_succ]
                refine wpAnyH_take (i := 14) (v := ?_) rfl (by kernel_rfl) (by kernel_rfl) (by kernel_rfl) (fun _ _ _ h => h) (Or.inl ⟨by rfl, ?_⟩) (by assumption) ?_
                rotate_left
                · intro w hSw
                  (try dsimp only at hSw)
                  go_simp
                  all_goals with_reducible rfl
                try simp only [Act.put, List.getElem_toArray, List.getElem_cons_succ, List.getElem_cons_zero, List.setIfInBounds_toArray, List.set_cons_zero, List.set_cons_succ]
                refine wpAnyH_done (by kernel_rfl) ?_ _
                go_wp2_with fail
                go_meet
                case rel => exact ⟨x22.heap.size, u26a, u26b, u26c, n26a, n26b, n26c, rfl, rfl, ⟨store27 hz26 rfl, ⟨hm26.bands.keep (but_setCells _ _ _ _) (fun h => absurd h (by decide)), hm26.slots.keep (but_setCells _ _ _ _) (fun h => absurd h (by decide)), hm26.body.same_ (but_setCells _ _ _ _).size (fun h => absurd h (by decide)), hm26.v64⟩⟩, HBf⟩
            · rw [if_pos (by rfl)]
              go_simp
              obtain ⟨x27, e27⟩ : ∃ x, x = x21.alloc (.cells #[.int .i64 0, .int .i64 0, .int .i64 0, .int .i64 0, .int .i64 0, .int .i64 0, .int .i64 0, .int .i64 0, .slice none 0 0, .int .i64 0, .int .i64 0, .int .i64 0, .int .i64 0, .slice none 0 0, .int .i64 0, .int .i64 0, .int .i64 0, .int .i64 0, .int .i64 0, .int .i64 0, .int .i64 0, .int .i64 0, .int .i64 0, .int .i64 0, .int .i64 0, .int .i64 0, .slice none 0 0] 30) := ⟨_, rfl⟩
              rw [← e27]
              have HBx27 : Below wc.heap.size wc x27 := by rw [e27]; exact HBx21.alloc HBx21.size _
              have hn27 : x27.heap[x21.heap.size]? = some (.cells #[.int .i64 0, .int .i64 0, .int .i64 0, .int .i64 0, .int .i64 0, .int .i64 0, .int .i64 0, .int .i64 0, .slice none 0 0, .int .i64 0, .int .i64 0, .int .i64 0, .int .i64 0, .slice none 0 0, .int .i64 0, .int .i64 0, .int .i64 0, .int .i64 0, .int .i64 0, .int .i64 0, .int .i64 0, .int .i64 0, .int .i64 0, .int .i64 0, .int .i64 0, .int .i64 0, .slice none 0 0] 30 (0, 0)) := by rw [e27]; exact heap_alloc_new _ _
              have ho27 : OwnB x27 wc.heap.size 5 v21 ([] ++ putR e) := by rw [e27]; exact ho21.alloc _
              have hl27 : x27.heap[x5.heap.size]? = some (.cells #[.int .u8 m] 5 (0, 0)) := by rw [e27]; exact (heap_alloc_old _ _ (lt_of_heap hl21)).trans hl21
              have nehz : (v21 : Value).ownBlock ≠ some x21.heap.size := fun e => by have h1 := (ho21.at_base e).2; omega
              clear e27
              refine hK.out _ _ ?_ (fun hHeld => ?_)
              · exact HSx.out _ HBx27
              clear hK K
              try simp only [Act.put, List.getElem_toArray, List.getElem_cons_succ, List.getElem_cons_zero, List.setIfInBounds_toArray, List.set_cons_zero, List.set_cons_succ]
              refine wpAnyH_ready (rs := [7]) (by kernel_rfl) (by simp) ?_
              refine AllReadyH.cons rfl (fun K hK => ?_) AllReadyH.nil
              rw [if_pos (by rfl)]
              refine wp_append_sl (.tmp 43) (.tmp 45) 28 rfl wc.heap.size _ Try.underlying28 info_u8 v21 ([] ++ putR e) (by rfl) ho27 _ (some ⟨x5.heap.size, 0, none⟩) 1 1 [m.toNat] (by rfl) (sl_one hl27 HM8.out) (by have := HPL.out; simp; omega) HBx27.size ?_
              intro v28 x28 ho28 hg28 hw28
              have HBx28 : Below wc.heap.size wc x28 := HBx27.grown hg28 HBx27.size (fun k hk => (ho27.at_base hk).1)
              have hz28 := (hg28.block _ (lt_of_heap hn27) (fun e => nehz e.symm)).trans hn27
              have nf28 : v28.ownBlock ≠ some x21.heap.size := fun e => by rcases hw28 with h1 | h1; exact nehz (h1.symm.trans e); have h2 := lt_of_heap hn27; rw [h1] at e; injection e with e; omega
              clear nehz
              have nehz := nf28
              clear nf28
              refine hK.out _ _ ?_ (fun hHeld => ?_)
              · exact HSx.out _ HBx28
              clear hK K
              try simp only [Act.put, List.getElem_toArray, List.getElem_cons_succ, List.getElem_cons_zero, List.setIfInBounds_toArray, List.set_cons_zero, List.set_cons_succ]
              refine wpAnyH_ready (rs := [8]) (by kernel_rfl) (by simp) ?_
              refine AllReadyH.cons rfl (fun K hK => ?_) AllReadyH.nil
              rw [if_pos (by rfl)]
              obtain ⟨ga29, gc29, hv29, hs29⟩ := ho28.sl HBM.out
              have hl29 : ([] ++ putR e ++ [m.toNat]).length ≤ 1000000 := by have := HPL.out; simp; omega
              have hG29 := HG2.out
              generalize [] ++ putR e ++ [m.toNat] = BS at hv29 hs29 hl29 hG29
              subst hv29
              go_simp
              go_at_call 7
              refine (get_to hG29 HK64.out hs29 hl29).mono ?_
              rintro r x29 ⟨u29a, u29b, u29c, n29a, n29b, n29c, rfl, hm29, hy29⟩
              have HBx29 : Below wc.heap.size wc x29 := HBx28.trans (hy29.mono HBx28.size)
              have hz29 := (hy29.block _ (lt_of_heap hz28)).trans hz28
              refine hK.out _ _ ?_ (fun hHeld => ?_)
              · exact HSx.out _ HBx29
              clear hK K
              try simp only [Act.put, List.getElem_toArray, List.getElem_cons_succ, List.getElem_cons_zero, List.setIfInBounds_toArray, List.set_cons_zero, List.set_cons_succ]
              refine wpAnyH_take (i := 9) (v := ?_) rfl (by kernel_rfl) (by kernel_rfl) (by kernel_rfl) (fun _ _ _ h => h) (Or.inl ⟨by rfl, ?_⟩) (by assumption) ?_
              rotate_left
              · intro w hSw
                (try dsimp only at hSw)
                go_simp
                all_goals with_reducible rfl
              try simp only [Act.put, List.getElem_toArray, List.getElem_cons_succ, List.getElem_cons_zero, List.setIfInBounds_toArray, List.set_cons_zero, List.set_cons_succ]
              refine wpAnyH_take (i := 10) (v := ?_) rfl (by kernel_rfl) (by kernel_rfl) (by kernel_rfl) (fun _ _ _ h => h) (Or.inl ⟨by rfl, ?_⟩) (by assumption) ?_
              rotate_left
              · intro w hSw
                (try dsimp only at hSw)
                go_simp
                all_goals with_reducible rfl
              try simp only [Act.put, List.getElem_toArray, List.getElem_cons_succ, List.getElem_cons_zero, List.setIfInBounds_toArray, List.set_cons_zero, List.set_cons_succ]
              refine wpAnyH_take (i := 11) (v := ?_) rfl (by kernel_rfl) (by kernel_rfl) (by kernel_rfl) (fun _ _ _ h => h) (Or.inl ⟨by rfl, ?_⟩) (by assumption) ?_
              rotate_left
              · intro w hSw
                (try dsimp only at hSw)
                go_simp
                all_goals with_reducible rfl
              try simp only [Act.put, List.getElem_toArray, List.getElem_cons_succ, List.getElem_cons_zero, List.setIfInBounds_toArray, List.set_cons_zero, List.set_cons_succ]
              refine wpAnyH_ready (rs := [13]) (by kernel_rfl) (by simp) ?_
              refine AllReadyH.cons rfl (fun K hK => ?_) AllReadyH.nil
              rw [if_pos (by rfl)]
              refine wp_store_mid 30 (.tmp 12) (.tmp 48) (by rfl) x21.heap.size 0 (evC (ofKind 0) u29a u29b u29c n29a n29b n29c) (by rfl) (by rfl) (there_of_block hz29 (Nat.le_refl 27)) (by kernel_rfl) (by kernel_rfl) ?_
              have HBf : Below wc.heap.size wc (x29.setCells x21.heap.size 0 (evC (ofKind 0) u29a u29b u29c n29a n29b n29c).toList) := below_setCells' _ HBx21.size _ _ HBx29
              refine hK.out _ _ ?_ (fun hHeld => ?_)
              · exact HSx.out _ HBf
              clear hK K
              try simp only [Act.put, List.getElem_toArray, List.getElem_cons_succ, List.getElem_cons_zero, List.setIfInBounds_toArray, List.set_cons_zero, List.set_cons_succ]
              refine wpAnyH_take (i := 14) (v := ?_) rfl (by kernel_rfl) (by kernel_rfl) (by kernel_rfl) (fun _ _ _ h => h) (Or.inl ⟨by rfl, ?_⟩) (by assumption) ?_
              rotate_left
              · intro w hSw
                (try dsimp only at hSw)
                go_simp
                all_goals with_reducible rfl
              try simp only [Act.put, List.getElem_toArray, List.getElem_cons_succ, List.getElem_cons_zero, List.setIfInBounds_toArray, List.set_cons_zero, List.set_cons_succ]
              refine wpAnyH_done (by kernel_rfl) ?_ _
              go_wp2_with fail
              go_meet
              case rel => exact ⟨x21.heap.size, u29a, u29b, u29c, n29a, n29b, n29c, rfl, rfl, ⟨store27 hz29 rfl, ⟨hm29.bands.keep (but_setCells _ _ _ _) (fun h => absurd h (by decide)), hm29.slots.keep (but_setCells _ _ _ _) (fun h => absurd h (by decide)), hm29.body.same_ (but_setCells _ _ _ _).size (fun h => absurd h (by decide)), hm29.v64⟩⟩, HBf⟩
          · rw [if_pos (by rfl)]
            go_simp
            obtain ⟨x30, e30⟩ : ∃ x, x = x20.alloc (.cells #[.int .i64 0, .int .i64 0, .int .i64 0, .int .i64 0, .int .i64 0, .int .i64 0, .int .i64 0, .int .i64 0, .slice none 0 0, .int .i64 0, .int .i64 0, .int .i64 0, .int .i64 0, .slice none 0 0, .int .i64 0, .int .i64 0, .int .i64 0, .int .i64 0, .int .i64 0, .int .i64 0, .int .i64 0, .int .i64 0, .int .i64 0, .int .i64 0, .int .i64 0, .int .i64 0, .slice none 0 0] 30) := ⟨_, rfl⟩
            rw [← e30]
            have HBx30 : Below wc.heap.size wc x30 := by rw [e30]; exact HBx20.alloc HBx20.size _
            have hn30 : x30.heap[x20.heap.size]? = some (.cells #[.int .i64 0, .int .i64 0, .int .i64 0, .int .i64 0, .int .i64 0, .int .i64 0, .int .i64 0, .int .i64 0, .slice none 0 0, .int .i64 0, .int .i64 0, .int .i64 0, .int .i64 0, .slice none 0 0, .int .i64 0, .int .i64 0, .int .i64 0, .int .i64 0, .int .i64 0, .int .i64 0, .int .i64 0, .int .i64 0, .int .i64 0, .int .i64 0, .int .i64 0, .int .i64 0, .slice none 0 0] 30 (0, 0)) := by rw [e30]; exact heap_alloc_new _ _
            have ho30 : OwnB x30 wc.heap.size 5 (.slice (some ⟨wc.heap.size, 0, none⟩) 0 0) [] := by rw [e30]; exact ho20.alloc _
            have hl30 : x30.heap[x5.heap.size]? = some (.cells #[.int .u8 m] 5 (0, 0)) := by rw [e30]; exact (heap_alloc_old _ _ (lt_of_heap hn20)).trans hn20
            have nehz : ((Value.slice (some ⟨wc.heap.size, 0, none⟩) 0 0) : Value).ownBlock ≠ some x20.heap.size := fun e => by have h1 := (ho20.at_base e).2; omega
            clear e30
            refine hK.out _ _ ?_ (fun hHeld => ?_)
            · exact HSx.out _ HBx30
            clear hK K
            try simp only [Act.put, List.getElem_toArray, List.getElem_cons_succ, List.getElem_cons_zero, List.setIfInBounds_toArray, List.set_cons_zero, List.set_cons_succ]
            refine wpAnyH_ready (rs := [4]) (by kernel_rfl) (by simp) ?_
            refine AllReadyH.cons rfl (fun K hK => ?_) AllReadyH.nil
            rw [if_pos (by rfl)]
            refine wp_append_sl (.tmp 41) (.tmp 42) 28 rfl wc.heap.size _ Try.underlying28 info_u8 (.slice (some ⟨wc.heap.size, 0, none⟩) 0 0) [] (by rfl) ho30 _ pa (putR e).length pc (putR e) (by rfl) ((S4.out.below HBx30 (Nat.le_refl _)).more HBx30.size) (by have := HPL.out; simp; omega) HBx30.size ?_
            intro v31 x31 ho31 hg31 hw31
            have HBx31 : Below wc.heap.size wc x31 := HBx30.grown hg31 HBx30.size (fun k hk => (ho30.at_base hk).1)
            have hl31 := (hg31.block _ (lt_of_heap hl30) (fun e => nehl e.symm)).trans hl30
            have nf31 : v31.ownBlock ≠ some x5.heap.size := fun e => by rcases hw31 with h1 | h1; exact nehl (h1.symm.trans e); have h2 := lt_of_heap hl30; rw [h1] at e; injection e with e; omega
            clear nehl
            have nehl := nf31
            clear nf31
            have hz31 := (hg31.block _ (lt_of_heap hn30) (fun e => nehz e.symm)).trans hn30
            have nf31 : v31.ownBlock ≠ some x20.heap.size := fun e => by rcases hw31 with h1 | h1; exact nehz (h1.symm.trans e); have h2 := lt_of_heap hn30; rw [h1] at e; injection e with e; omega
            clear nehz
            have nehz := nf31
            clear nf31
            refine hK.out _ _ ?_ (fun hHeld => ?_)
            · exact HSx.out _ HBx31
            clear hK K
            try simp only [Act.put, List.getElem_toArray, List.getElem_cons_succ, List.getElem_cons_zero, List.setIfInBounds_toArray, List.set_cons_zero, List.set_cons_succ]
            refine wpAnyH_ready (rs := [7]) (by kernel_rfl) (by simp) ?_
            refine AllReadyH.cons rfl (fun K hK => ?_) AllReadyH.nil
            rw [if_pos (by rfl)]
            refine wp_append_sl (.tmp 43) (.tmp 45) 28 rfl wc.heap.size _ Try.underlying28 info_u8 v31 ([] ++ putR e) (by rfl) ho31 _ (some ⟨x5.heap.size, 0, none⟩) 1 1 [m.toNat] (by rfl) (sl_one hl31 HM8.out) (by have := HPL.out; simp; omega) HBx31.size ?_
            intro v32 x32 ho32 hg32 hw32
            have HBx32 : Below wc.heap.size wc x32 := HBx31.grown hg32 HBx31.size (fun k hk => (ho31.at_base hk).1)
            have hz32 := (hg32.block _ (lt_of_heap hz31) (fun e => nehz e.symm)).trans hz31
            have nf32 : v32.ownBlock ≠ some x20.heap.size := fun e => by rcases hw32 with h1 | h1; exact nehz (h1.symm.trans e); have h2 := lt_of_heap hz31; rw [h1] at e; injection e with e; omega
            clear nehz
            have nehz := nf32
            clear nf32
            refine hK.out _ _ ?_ (fun hHeld => ?_)
            · exact HSx.out _ HBx32
            clear hK K
            try simp only [Act.put, List.getElem_toArray, List.getElem_cons_succ, List.getElem_cons_zero, List.setIfInBounds_toArray, List.set_cons_zero, List.set_cons_succ]
            refine wpAnyH_ready (rs := [8]) (by kernel_rfl) (by simp) ?_
            refine AllReadyH.cons rfl (fun K hK => ?_) AllReadyH.nil
            rw [if_pos (by rfl)]
            obtain ⟨ga33, gc33, hv33, hs33⟩ := ho32.sl HBM.out
            have hl33 : ([] ++ putR e ++ [m.toNat]).length ≤ 1000000 := by have := HPL.out; simp; omega
            have hG33 := HG2.out
            generalize [] ++ putR e ++ [m.toNat] = BS at hv33 hs33 hl33 hG33
            subst hv33
            go_simp
            go_at_call 7
            refine (get_to hG33 HK64.out hs33 hl33).mono ?_
            rintro r x33 ⟨u33a, u33b, u33c, n33a, n33b, n33c, rfl, hm33, hy33⟩
            have HBx33 : Below wc.heap.size wc x33 := HBx32.trans (hy33.mono HBx32.size)
            have hz33 := (hy33.block _ (lt_of_heap hz32)).trans hz32
            refine hK.out _ _ ?_ (fun hHeld => ?_)
            · exact HSx.out _ HBx33
            clear hK K
            try simp only [Act.put, List.getElem_toArray, List.getElem_cons_succ, List.getElem_cons_zero, List.setIfInBounds_toArray, List.set_cons_zero, List.set_cons_succ]
            refine wpAnyH_take (i := 9) (v := ?_) rfl (by kernel_rfl) (by kernel_rfl) (by kernel_rfl) (fun _ _ _ h => h) (Or.inl ⟨by rfl, ?_⟩) (by assumption) ?_
            rotate_left
            · intro w hSw
              (try dsimp only at hSw)
              go_simp
              all_goals with_reducible rfl
            try simp only [Act.put, List.getElem_toArray, List.getElem_cons_succ, List.getElem_cons_zero, List.setIfInBounds_toArray, List.set_cons_zero, List.set_cons_succ]
            refine wpAnyH_take (i := 10) (v := ?_) rfl (by kernel_rfl) (by kernel_rfl) (by kernel_rfl) (fun _ _ _ h => h) (Or.inl ⟨by rfl, ?_⟩) (by assumption) ?_
            rotate_left
            · intro w hSw
              (try dsimp only at hSw)
              go_simp
              all_goals with_reducible rfl
            try simp only [Act.put, List.getElem_toArray, List.getElem_cons_succ, List.getElem_cons_zero, List.setIfInBounds_toArray, List.set_cons_zero, List.set_cons_succ]
            refine wpAnyH_take (i := 11) (v := ?_) rfl (by kernel_rfl) (by kernel_rfl) (by kernel_rfl) (fun _ _ _ h => h) (Or.inl ⟨by rfl, ?_⟩) (by assumption) ?_
            rotate_left
            · intro w hSw
              (try dsimp only at hSw)
              go_simp
              all_goals with_reducible rfl
            try simp only [Act.put, List.getElem_toArray, List.getElem_cons_succ, List.getElem_cons_zero, List.setIfInBounds_toArray, List.set_cons_zero, List.set_cons_succ]
            refine wpAnyH_ready (rs := [13]) (by kernel_rfl) (by simp) ?_
            refine AllReadyH.cons rfl (fun K hK => ?_) AllReadyH.nil
            rw [if_pos (by rfl)]
            refine wp_store_mid 30 (.tmp 12) (.tmp 48) (by rfl) x20.heap.size 0 (evC (ofKind 0) u33a u33b u33c n33a n33b n33c) (by rfl) (by rfl) (there_of_block hz33 (Nat.le_refl 27)) (by kernel_rfl) (by kernel_rfl) ?_
            have HBf : Below wc.heap.size wc (x33.setCells x20.heap.size 0 (evC (ofKind 0) u33a u33b u33c n33a n33b n33c).toList) := below_setCells' _ HBx20.size _ _ HBx33
            refine hK.out _ _ ?_ (fun hHeld => ?_)
            · exact HSx.out _ HBf
            clear hK K
            try simp only [Act.put, List.getElem_toArray, List.getElem_cons_succ, List.getElem_cons_zero, List.setIfInBounds_toArray, List.set_cons_zero, List.set_cons_succ]
            refine wpAnyH_take (i := 14) (v := ?_) rfl (by kernel_rfl) (by kernel_rfl) (by kernel_rfl) (fun _ _ _ h => h) (Or.inl ⟨by rfl, ?_⟩) (by assumption) ?_
            rotate_left
            · intro w hSw
              (try dsimp only at hSw)
              go_simp
              all_goals with_reducible rfl
            try simp only [Act.put, List.getElem_toArray, List.getElem_cons_succ, List.getElem_cons_zero, List.setIfInBounds_toArray, List.set_cons_zero, List.set_cons_succ]
            refine wpAnyH_done (by kernel_rfl) ?_ _
            go_wp2_with fail
            go_meet
            case rel => exact ⟨x20.heap.size, u33a, u33b, u33c, n33a, n33b, n33c, rfl, rfl, ⟨store27 hz33 rfl, ⟨hm33.bands.keep (but_setCells _ _ _ _) (fun h => absurd h (by decide)), hm33.slots.keep (but_setCells _ _ _ _) (fun h => absurd h (by decide)), hm33.body.same_ (but_setCells _ _ _ _).size (fun h => absurd h (by decide)), hm33.v64⟩⟩, HBf⟩
        · rw [if_pos (by rfl)]
          go_simp
          obtain ⟨x34, e34⟩ : ∃ x, x = x5.alloc (.cells #[.int .i64 0, .int .i64 0, .int .i64 0, .int .i64 0, .int .i64 0, .int .i64 0, .int .i64 0, .int .i64 0, .slice none 0 0, .int .i64 0, .int .i64 0, .int .i64 0, .int .i64 0, .slice none 0 0, .int .i64 0, .int .i64 0, .int .i64 0, .int .i64 0, .int .i64 0, .int .i64 0, .int .i64 0, .int .i64 0, .int .i64 0, .int .i64 0, .int .i64 0, .int .i64 0, .slice none 0 0] 30) := ⟨_, rfl⟩
          rw [← e34]
          have HBx34 : Below wc.heap.size wc x34 := by rw [e34]; exact HBx5.alloc HBx5.size _
          have hn34 : x34.heap[x5.heap.size]? = some (.cells #[.int .i64 0, .int .i64 0, .int .i64 0, .int .i64 0, .int .i64 0, .int .i64 0, .int .i64 0, .int .i64 0, .slice none 0 0, .int .i64 0, .int .i64 0, .int .i64 0, .int .i64 0, .slice none 0 0, .int .i64 0, .int .i64 0, .int .i64 0, .int .i64 0, .int .i64 0, .int .i64 0, .int .i64 0, .int .i64 0, .int .i64 0, .int .i64 0, .int .i64 0, .int .i64 0, .slice none 0 0] 30 (0, 0)) := by rw [e34]; exact heap_alloc_new _ _
          have ho34 : OwnB x34 wc.heap.size 5 (.slice (some ⟨wc.heap.size, 0, none⟩) 0 0) [] := by rw [e34]; exact hq5.alloc _
          have nehz : ((Value.slice (some ⟨wc.heap.size, 0, none⟩) 0 0) : Value).ownBlock ≠ some x5.heap.size := fun e => by have h1 := (hq5.at_base e).2; omega
          clear e34
          refine hK.out _ _ ?_ (fun hHeld => ?_)
          · exact HSx.out _ HBx34
          clear hK K
          try simp only [Act.put, List.getElem_toArray, List.getElem_cons_succ, List.getElem_cons_zero, List.setIfInBounds_toArray, List.set_cons_zero, List.set_cons_succ]
          refine wpAnyH_ready (rs := [4, 6]) (by kernel_rfl) (by simp) ?_
          refine AllReadyH.cons rfl (fun K hK => ?_) (AllReadyH.cons rfl (fun K hK => ?_) AllReadyH.nil)
          · rw [if_pos (by rfl)]
            refine wp_append_sl (.tmp 41) (.tmp 42) 28 rfl wc.heap.size _ Try.underlying28 info_u8 (.slice (some ⟨wc.heap.size, 0, none⟩) 0 0) [] (by rfl) ho34 _ pa (putR e).length pc (putR e) (by rfl) ((S4.out.below HBx34 (Nat.le_refl _)).more HBx34.size) (by have := HPL.out; simp; omega) HBx34.size ?_
            intro v35 x35 ho35 hg35 hw35
            have HBx35 : Below wc.heap.size wc x35 := HBx34.grown hg35 HBx34.size (fun k hk => (ho34.at_base hk).1)
            have hz35 := (hg35.block _ (lt_of_heap hn34) (fun e => nehz e.symm)).trans hn34
            have nf35 : v35.ownBlock ≠ some x5.heap.size := fun e => by rcases hw35 with h1 | h1; exact nehz (h1.symm.trans e); have h2 := lt_of_heap hn34; rw [h1] at e; injection e with e; omega
            clear nehz
            have nehz := nf35
            clear nf35
            refine hK.out _ _ ?_ (fun hHeld => ?_)
            · exact HSx.out _ HBx35
            clear hK K
            try simp only [Act.put, List.getElem_toArray, List.getElem_cons_succ, List.getElem_cons_zero, List.setIfInBounds_toArray, List.set_cons_zero, List.set_cons_succ]
            refine wpAnyH_ready (rs := [6]) (by kernel_rfl) (by simp) ?_
            refine AllReadyH.cons rfl (fun K hK => ?_) AllReadyH.nil
            rw [if_pos (by rfl)]
            go_simp
            obtain ⟨x36, e36⟩ : ∃ x, x = x35.alloc (.cells #[.int .u8 m] 5) := ⟨_, rfl⟩
            rw [← e36]
            have HBx36 : Below wc.heap.size wc x36 := by rw [e36]; exact HBx35.alloc HBx35.size _
            have hn36 : x36.heap[x35.heap.size]? = some (.cells #[.int .u8 m] 5 (0, 0)) := by rw [e36]; exact heap_alloc_new _ _
            have ho36 : OwnB x36 wc.heap.size 5 v35 ([] ++ putR e) := by rw [e36]; exact ho35.alloc _
            have hz36 : x36.heap[x5.heap.size]? = some (.cells #[.int .i64 0, .int .i64 0, .int .i64 0, .int .i64 0, .int .i64 0, .int .i64 0, .int .i64 0, .int .i64 0, .slice none 0 0, .int .i64 0, .int .i64 0, .int .i64 0, .int .i64 0, .slice none 0 0, .int .i64 0, .int .i64 0, .int .i64 0, .int .i64 0, .int .i64 0, .int .i64 0, .int .i64 0, .int .i64 0, .int .i64 0, .int .i64 0, .int .i64 0, .int .i64 0, .slice none 0 0] 30 (0, 0)) := by rw [e36]; exact (heap_alloc_old _ _ (lt_of_heap hz35)).trans hz35
            have nehl : (v35 : Value).ownBlock ≠ some x35.heap.size := fun e => by have h1 := (ho35.at_base e).2; omega
            clear e36
            refine hK.out _ _ ?_ (fun hHeld => ?_)
            · exact HSx.out _ HBx36
            clear hK K
            try simp only [Act.put, List.getElem_toArray, List.getElem_cons_succ, List.getElem_cons_zero, List.setIfInBounds_toArray, List.set_cons_zero, List.set_cons_succ]
            refine wpAnyH_ready (rs := [7]) (by kernel_rfl) (by simp) ?_
            refine AllReadyH.cons rfl (fun K hK => ?_) AllReadyH.nil
            rw [if_pos (by rfl)]
            refine wp_append_sl (.tmp 43) (.tmp 45) 28 rfl wc.heap.size _ Try.underlying28 info_u8 v35 ([] ++ putR e) (by rfl) ho36 _ (some ⟨x35.heap.size, 0, none⟩) 1 1 [m.toNat] (by rfl) (sl_one hn36 HM8.out) (by have := HPL.out; simp; omega) HBx36.size ?_
            intro v37 x37 ho37 hg37 hw37
            have HBx37 : Below wc.heap.size wc x37 := HBx36.grown hg37 HBx36.size (fun k hk => (ho36.at_base hk).1)
            have hz37 := (hg37.block _ (lt_of_heap hz36) (fun e => nehz e.symm)).trans hz36
            have nf37 : v37.ownBlock ≠ some x5.heap.size := fun e => by rcases hw37 with h1 | h1; exact nehz (h1.symm.trans e); have h2 := lt_of_heap hz36; rw [h1] at e; injection e with e; omega
            clear nehz
            have nehz := nf37
            clear nf37
            refine hK.out _ _ ?_ (fun hHeld => ?_)
            · exact HSx.out _ HBx37
            clear hK K
            try simp only [Act.put, List.getElem_toArray, List.getElem_cons_succ, List.getElem_cons_zero, List.setIfInBounds_toArray, List.set_cons_zero, List.set_cons_succ]
            refine wpAnyH_ready (rs := [8]) (by kernel_rfl) (by simp) ?_
            refine AllReadyH.cons rfl (fun K hK => ?_) AllReadyH.nil
            rw [if_pos (by rfl)]
            obtain ⟨ga38, gc38, hv38, hs38⟩ := ho37.sl HBM.out
            have hl38 : ([] ++ putR e ++ [m.toNat]).length ≤ 1000000 := by have := HPL.out; simp; omega
            have hG38 := HG2.out
            generalize [] ++ putR e ++ [m.toNat] = BS at hv38 hs38 hl38 hG38
            subst hv38
            go_simp
            go_at_call 7
            refine (get_to hG38 HK64.out hs38 hl38).mono ?_
            rintro r x38 ⟨u38a, u38b, u38c, n38a, n38b, n38c, rfl, hm38, hy38⟩
            have HBx38 : Below wc.heap.size wc x38 := HBx37.trans (hy38.mono HBx37.size)
            have hz38 := (hy38.block _ (lt_of_heap hz37)).trans hz37
            refine hK.out _ _ ?_ (fun hHeld => ?_)
            · exact HSx.out _ HBx38
            clear hK K
            try simp only [Act.put, List.getElem_toArray, List.getElem_cons_succ, List.getElem_cons_zero, List.setIfInBounds_toArray, List.set_cons_zero, List.set_cons_succ]
            refine wpAnyH_take (i := 9) (v := ?_) rfl (by kernel_rfl) (by kernel_rfl) (by kernel_rfl) (fun _ _ _ h => h) (Or.inl ⟨by rfl, ?_⟩) (by assumption) ?_
            rotate_left
            · intro w hSw
              (try dsimp only at hSw)
              go_simp
              all_goals with_reducible rfl
            try simp only [Act.put, List.getElem_toArray, List.getElem_cons_succ, List.getElem_cons_zero, List.setIfInBounds_toArray, List.set_cons_zero, List.set_cons_succ]
            refine wpAnyH_take (i := 10) (v := ?_) rfl (by kernel_rfl) (by kernel_rfl) (by kernel_rfl) (fun _ _ _ h => h) (Or.inl ⟨by rfl, ?_⟩) (by assumption) ?_
            rotate_left
            · intro w hSw
              (try dsimp only at hSw)
              go_simp
              all_goals with_reducible rfl
            try simp only [Act.put, List.getElem_toArray, List.getElem_cons_succ, List.getElem_cons_zero, List.setIfInBounds_toArray, List.set_cons_zero, List.set_cons_succ]
            refine wpAnyH_take (i := 11) (v := ?_) rfl (by kernel_rfl) (by kernel_rfl) (by kernel_rfl) (fun _ _ _ h => h) (Or.inl ⟨by rfl, ?_⟩) (by assumption) ?_
            rotate_left
            · intro w hSw
              (try dsimp only at hSw)
              go_simp
              all_goals with_reducible rfl
            try simp only [Act.put, List.getElem_toArray, List.getElem_cons_succ, List.getElem_cons_zero, List.setIfInBounds_toArray, List.set_cons_zero, List.set_cons_succ]
            refine wpAnyH_ready (rs := [13]) (by kernel_rfl) (by simp) ?_
            refine AllReadyH.cons rfl (fun K hK => ?_) AllReadyH.nil
            rw [if_pos (by rfl)]
            refine wp_store_mid 30 (.tmp 12) (.tmp 48) (by rfl) x5.heap.size 0 (evC (ofKind 0) u38a u38b u38c n38a n38b n38c) (by rfl) (by rfl) (there_of_block hz38 (Nat.le_refl 27)) (by kernel_rfl) (by kernel_rfl) ?_
            have HBf : Below wc.heap.size wc (x38.setCells x5.heap.size 0 (evC (ofKind 0) u38a u38b u38c n38a n38b n38c).toList) := below_setCells' _ HBx5.size _ _ HBx38
            refine hK.out _ _ ?_ (fun hHeld => ?_)
            · exact HSx.out _ HBf
            clear hK K
            try simp only [Act.put, List.getElem_toArray, List.getElem_cons_succ, List.getElem_cons_zero, List.setIfInBounds_toArray, List.set_cons_zero, List.set_cons_succ]
            refine wpAnyH_take (i := 14) (v := ?_) rfl (by kernel_rfl) (by kernel_rfl) (by kernel_rfl) (fun _ _ _ h => h) (Or.inl ⟨by rfl, ?_⟩) (by assumption) ?_
            rotate_left
            · intro w hSw
              (try dsimp only at hSw)
              go_simp
              all_goals with_reducible rfl
            try simp only [Act.put, List.getElem_toArray, List.getElem_cons_succ, List.getElem_cons_zero, List.setIfInBounds_toArray, List.set_cons_zero, List.set_cons_succ]
            refine wpAnyH_done (by kernel_rfl) ?_ _
            go_wp2_with fail
            go_meet
            case rel => exact ⟨x5.heap.size, u38a, u38b, u38c, n38a, n38b, n38c, rfl, rfl, ⟨store27 hz38 rfl, ⟨hm38.bands.keep (but_setCells _ _ _ _) (fun h => absurd h (by decide)), hm38.slots.keep (but_setCells _ _ _ _) (fun h => absurd h (by decide)), hm38.body.same_ (but_setCells _ _ _ _).size (fun h => absurd h (by decide)), hm38.v64⟩⟩, HBf⟩
          · rw [if_pos (by rfl)]
            go_simp
            obtain ⟨x39, e39⟩ : ∃ x, x = x34.alloc (.cells #[.int .u8 m] 5) := ⟨_, rfl⟩
            rw [← e39]
            have HBx39 : Below wc.heap.size wc x39 := by rw [e39]; exact HBx34.alloc HBx34.size _
            have hn39 : x39.heap[x34.heap.size]? = some (.cells #[.int .u8 m] 5 (0, 0)) := by rw [e39]; exact heap_alloc_new _ _
            have ho39 : OwnB x39 wc.heap.size 5 (.slice (some ⟨wc.heap.size, 0, none⟩) 0 0) [] := by rw [e39]; exact ho34.alloc _
            have hz39 : x39.heap[x5.heap.size]? = some (.cells #[.int .i64 0, .int .i64 0, .int .i64 0, .int .i64 0, .int .i64 0, .int .i64 0, .int .i64 0, .int .i64 0, .slice none 0 0, .int .i64 0, .int .i64 0, .int .i64 0, .int .i64 0, .slice none 0 0, .int .i64 0, .int .i64 0, .int .i64 0, .int .i64 0, .int .i64 0, .int .i64 0, .int .i64 0, .int .i64 0, .int .i64 0, .int .i64 0, .int .i64 0, .int .i64 0, .slice none 0 0] 30 (0, 0)) := by rw [e39]; exact (heap_alloc_old _ _ (lt_of_heap hn34)).trans hn34
            have nehl : ((Value.slice (some ⟨wc.heap.size, 0, none⟩) 0 0) : Value).ownBlock ≠ some x34.heap.size := fun e => by have h1 := (ho34.at_base e).2; omega
            clear e39
            refine hK.out _ _ ?_ (fun hHeld => ?_)
            · exact HSx.out _ HBx39
            clear hK K
            try simp only [Act.put, List.getElem_toArray, List.getElem_cons_succ, List.getElem_cons_zero, List.setIfInBounds_toArray, List.set_cons_zero, List.set_cons_succ]
            refine wpAnyH_ready (rs := [4]) (by kernel_rfl) (by simp) ?_
            refine AllReadyH.cons rfl (fun K hK => ?_) AllReadyH.nil
            rw [if_pos (by rfl)]
            refine wp_append_sl (.tmp 41) (.tmp 42) 28 rfl wc.heap.size _ Try.underlying28 info_u8 (.slice (some ⟨wc.heap.size, 0, none⟩) 0 0) [] (by rfl) ho39 _ pa (putR e).length pc (putR e) (by rfl) ((S4.out.below HBx39 (Nat.le_refl _)).more HBx39.size) (by have := HPL.out; simp; omega) HBx39.size ?_
            intro v40 x40 ho40 hg40 hwc0
            have HBx40 : Below wc.heap.size wc x40 := HBx39.grown hg40 HBx39.size (fun k hk => (ho39.at_base hk).1)
            have hl40 := (hg40.block _ (lt_of_heap hn39) (fun e => nehl e.symm)).trans hn39
            have nf40 : v40.ownBlock ≠ some x34.heap.size := fun e => by rcases hwc0 with h1 | h1; exact nehl (h1.symm.trans e); have h2 := lt_of_heap hn39; rw [h1] at e; injection e with e; omega
            clear nehl
            have nehl := nf40
            clear nf40
            have hz40 := (hg40.block _ (lt_of_heap hz39) (fun e => nehz e.symm)).trans hz39
            have nf40 : v40.ownBlock ≠ some x5.heap.size := fun e => by rcases hwc0 with h1 | h1; exact nehz (h1.symm.trans e); have h2 := lt_of_heap hz39; rw [h1] at e; injection e with e; omega
            clear nehz
            have nehz := nf40
            clear nf40
            refine hK.out _ _ ?_ (fun hHeld => ?_)
            · exact HSx.out _ HBx40
            clear hK K
            try simp only [Act.put, List.getElem_toArray, List.getElem_cons_succ, List.getElem_cons_zero, List.setIfInBounds_toArray, List.set_cons_zero, List.set_cons_succ]
            refine wpAnyH_ready (rs := [7]) (by kernel_rfl) (by simp) ?_
            refine AllReadyH.cons rfl (fun K hK => ?_) AllReadyH.nil
            rw [if_pos (by rfl)]
            refine wp_append_sl (.tmp 43) (.tmp 45) 28 rfl wc.heap.size _ Try.underlying28 info_u8 v40 ([] ++ putR e) (by rfl) ho40 _ (some ⟨x34.heap.size, 0, none⟩) 1 1 [m.toNat] (by rfl) (sl_one hl40 HM8.out) (by have := HPL.out; simp; omega) HBx40.size ?_
            intro v41 x41 ho41 hg41 hwc1
            have HBx41 : Below wc.heap.size wc x41 := HBx40.grown hg41 HBx40.size (fun k hk => (ho40.at_base hk).1)
            have hz41 := (hg41.block _ (lt_of_heap hz40) (fun e => nehz e.symm)).trans hz40
            have nf41 : v41.ownBlock ≠ some x5.heap.size := fun e => by rcases hwc1 with h1 | h1; exact nehz (h1.symm.trans e); have h2 := lt_of_heap hz40; rw [h1] at e; injection e with e; omega
            clear nehz
            have nehz := nf41
            clear nf41
            refine hK.out _ _ ?_ (fun hHeld => ?_)
            · exact HSx.out _ HBx41
            clear hK K
            try simp only [Act.put, List.getElem_toArray, List.getElem_cons_succ, List.getElem_cons_zero, List.setIfInBounds_toArray, List.set_cons_zero, List.set_cons_succ]
            refine wpAnyH_ready (rs := [8]) (by kernel_rfl) (by simp) ?_
            refine AllReadyH.cons rfl (fun K hK => ?_) AllReadyH.nil
            rw [if_pos (by rfl)]
            obtain ⟨ga42, gc42, hv42, hs42⟩ := ho41.sl HBM.out
            have hl42 : ([] ++ putR e ++ [m.toNat]).length ≤ 1000000 := by have := HPL.out; simp; omega
            have hG42 := HG2.out
            generalize [] ++ putR e ++ [m.toNat] = BS at hv42 hs42 hl42 hG42
            subst hv42
            go_simp
            go_at_call 7
            refine (get_to hG42 HK64.out hs42 hl42).mono ?_
            rintro r x42 ⟨u42a, u42b, u42c, n42a, n42b, n42c, rfl, hm42, hy42⟩
            have HBx42 : Below wc.heap.size wc x42 := HBx41.trans (hy42.mono HBx41.size)
            have hz42 := (hy42.block _ (lt_of_heap hz41)).trans hz41
            refine hK.out _ _ ?_ (fun hHeld => ?_)
            · exact HSx.out _ HBx42
            clear hK K
            try simp only [Act.put, List.getElem_toArray, List.getElem_cons_succ, List.getElem_cons_zero, List.setIfInBounds_toArray, List.set_cons_zero, List.set_cons_succ]
            refine wpAnyH_take (i := 9) (v := ?_) rfl (by kernel_rfl) (by kernel_rfl) (by kernel_rfl) (fun _ _ _ h => h) (Or.inl ⟨by rfl, ?_⟩) (by assumption) ?_
            rotate_left
            · intro w hSw
              (try dsimp only at hSw)
              go_simp
              all_goals with_reducible rfl
            try simp only [Act.put, List.getElem_toArray, List.getElem_cons_succ, List.getElem_cons_zero, List.setIfInBounds_toArray, List.set_cons_zero, List.set_cons_succ]
            refine wpAnyH_take (i := 10) (v := ?_) rfl (by kernel_rfl) (by kernel_rfl) (by kernel_rfl) (fun _ _ _ h => h) (Or.inl ⟨by rfl, ?_⟩) (by assumption) ?_
            rotate_left
            · intro w hSw
              (try dsimp only at hSw)
              go_simp
              all_goals with_reducible rfl
            try simp only [Act.put, List.getElem_toArray, List.getElem_cons_succ, List.getElem_cons_zero, List.setIfInBounds_toArray, List.set_cons_zero, List.set_cons_succ]
            refine wpAnyH_take (i := 11) (v := ?_) rfl (by kernel_rfl) (by kernel_rfl) (by kernel_rfl) (fun _ _ _ h => h) (Or.inl ⟨by rfl, ?_⟩) (by assumption) ?_
            rotate_left
            · intro w hSw
              (try dsimp only at hSw)
              go_simp
              all_goals with_reducible rfl
            try simp only [Act.put, List.getElem_toArray, List.getElem_cons_succ, List.getElem_cons_zero, List.setIfInBounds_toArray, List.set_cons_zero, List.set_cons_succ]
            refine wpAnyH_ready (rs := [13]) (by kernel_rfl) (by simp) ?_
            refine AllReadyH.cons rfl (fun K hK => ?_) AllReadyH.nil
            rw [if_pos (by rfl)]
            refine wp_store_mid 30 (.tmp 12) (.tmp 48) (by rfl) x5.heap.size 0 (evC (ofKind 0) u42a u42b u42c n42a n42b n42c) (by rfl) (by rfl) (there_of_block hz42 (Nat.le_refl 27)) (by kernel_rfl) (by kernel_rfl) ?_
            have HBf : Below wc.heap.size wc (x42.setCells x5.heap.size 0 (evC (ofKind 0) u42a u42b u42c n42a n42b n42c).toList) := below_setCells' _ HBx5.size _ _ HBx42
            refine hK.out _ _ ?_ (fun hHeld => ?_)
            · exact HSx.out _ HBf
            clear hK K
            try simp only [Act.put, List.getElem_toArray, List.getElem_cons_succ, List.getElem_cons_zero, List.setIfInBounds_toArray, List.set_cons_zero, List.set_cons_succ]
            refine wpAnyH_take (i := 14) (v := ?_) rfl (by kernel_rfl) (by kernel_rfl) (by kernel_rfl) (fun _ _ _ h => h) (Or.inl ⟨by rfl, ?_⟩) (by assumption) ?_
            rotate_left
            · intro w hSw
              (try dsimp only at hSw)
              go_simp
              all_goals with_reducible rfl
            try simp only [Act.put, List.getElem_toArray, List.getElem_cons_succ, List.getElem_cons_zero, List.setIfInBounds_toArray, List.set_cons_zero, List.set_cons_succ]
            refine wpAnyH_done (by kernel_rfl) ?_ _
            go_wp2_with fail
            go_meet
            case rel => exact ⟨x5.heap.size, u42a, u42b, u42c, n42a, n42b, n42c, rfl, rfl, ⟨store27 hz42 rfl, ⟨hm42.bands.keep (but_setCells _ _ _ _) (fun h => absurd h (by decide)), hm42.slots.keep (but_setCells _ _ _ _) (fun h => absurd h (by decide)), hm42.body.same_ (but_setCells _ _ _ _).size (fun h => absurd h (by decide)), hm42.v64⟩⟩, HBf⟩
      · rw [if_pos (by rfl)]
        go_simp
        obtain ⟨x43, e43⟩ : ∃ x, x = (wc.alloc (.cells #[.int .u8 m] 5)).drew := ⟨_, rfl⟩
        rw [← e43]
        have HBx43 : Below wc.heap.size wc x43 := by rw [e43]; exact ((Below.refl wc.heap.size wc).alloc (Nat.le_refl _) _).drew
        have hn43 : x43.heap[wc.heap.size]? = some (.cells #[.int .u8 m] 5 (0, 0)) := by rw [e43]; exact heap_alloc_new _ _
        clear e43
        refine hK.out _ _ ?_ (fun hHeld => ?_)
        · exact HSx.out _ HBx43
        clear hK K
        try simp only [Act.put, List.getElem_toArray, List.getElem_cons_succ, List.getElem_cons_zero, List.setIfInBounds_toArray, List.set_cons_zero, List.set_cons_succ]
        refine wpAnyH_ready (rs := [2, 12]) (by kernel_rfl) (by simp) ?_
        refine AllReadyH.cons rfl (fun K hK => ?_) (AllReadyH.cons rfl (fun K hK => ?_) AllReadyH.nil)
        · rw [if_pos (by rfl)]
          go_simp
          obtain ⟨x44, e44⟩ : ∃ x, x = x43.alloc (.cells #[] 5) := ⟨_, rfl⟩
          rw [← e44]
          have HBx44 : Below wc.heap.size wc x44 := by rw [e44]; exact HBx43.alloc HBx43.size _
          have hn44 : x44.heap[x43.heap.size]? = some (.cells #[] 5 (0, 0)) := by rw [e44]; exact heap_alloc_new _ _
          have hl44 : x44.heap[wc.heap.size]? = some (.cells #[.int .u8 m] 5 (0, 0)) := by rw [e44]; exact (heap_alloc_old _ _ (lt_of_heap hn43)).trans hn43
          have hq44 : OwnB x44 wc.heap.size 5 (.slice (some ⟨x43.heap.size, 0, none⟩) 0 0) [] := by rw [e44]; exact OwnB.lit _ [] HBx43.size (by decide)
          have nehl : (Value.slice (some ⟨x43.heap.size, 0, none⟩) 0 0).ownBlock ≠ some wc.heap.size := fun e => by injection e with e; have := lt_of_heap hn43; simp only at e; omega
          clear e44
          refine hK.out _ _ ?_ (fun hHeld => ?_)
          · exact HSx.out _ HBx44
          clear hK K
          try simp only [Act.put, List.getElem_toArray, List.getElem_cons_succ, List.getElem_cons_zero, List.setIfInBounds_toArray, List.set_cons_zero, List.set_cons_succ]
          refine wpAnyH_ready (rs := [4, 12]) (by kernel_rfl) (by simp) ?_
          refine AllReadyH.cons rfl (fun K hK => ?_) (AllReadyH.cons rfl (fun K hK => ?_) AllReadyH.nil)
          · rw [if_pos (by rfl)]
            refine wp_append_sl (.tmp 41) (.tmp 42) 28 rfl wc.heap.size _ Try.underlying28 info_u8 (.slice (some ⟨x43.heap.size, 0, none⟩) 0 0) [] (by rfl) hq44 _ pa (putR e).length pc (putR e) (by rfl) ((S4.out.below HBx44 (Nat.le_refl _)).more HBx44.size) (by have := HPL.out; simp; omega) HBx44.size ?_
            intro v45 x45 ho45 hg45 hwc5
            have HBx45 : Below wc.heap.size wc x45 := HBx44.grown hg45 HBx44.size (fun k hk => (hq44.at_base hk).1)
            have hl45 := (hg45.block _ (lt_of_heap hl44) (fun e => nehl e.symm)).trans hl44
            have nf45 : v45.ownBlock ≠ some wc.heap.size := fun e => by rcases hwc5 with h1 | h1; exact nehl (h1.symm.trans e); have h2 := lt_of_heap hl44; rw [h1] at e; injection e with e; omega
            clear nehl
            have nehl := nf45
            clear nf45
            refine hK.out _ _ ?_ (fun hHeld => ?_)
            · exact HSx.out _ HBx45
            clear hK K
            try simp only [Act.put, List.getElem_toArray, List.getElem_cons_succ, List.getElem_cons_zero, List.setIfInBounds_toArray, List.set_cons_zero, List.set_cons_succ]
            refine wpAnyH_ready (rs := [7, 12]) (by kernel_rfl) (by simp) ?_
            refine AllReadyH.cons rfl (fun K hK => ?_) (AllReadyH.cons rfl (fun K hK => ?_) AllReadyH.nil)
            · rw [if_pos (by rfl)]
              refine wp_append_sl (.tmp 43) (.tmp 45) 28 rfl wc.heap.size _ Try.underlying28 info_u8 v45 ([] ++ putR e) (by rfl) ho45 _ (some ⟨wc.heap.size, 0, none⟩) 1 1 [m.toNat] (by rfl) (sl_one hl45 HM8.out) (by have := HPL.out; simp; omega) HBx45.size ?_
              intro v46 x46 ho46 hg46 hwc6
              have HBx46 : Below wc.heap.size wc x46 := HBx45.grown hg46 HBx45.size (fun k hk => (ho45.at_base hk).1)
              refine hK.out _ _ ?_ (fun hHeld => ?_)
              · exact HSx.out _ HBx46
              clear hK K
              try simp only [Act.put, List.getElem_toArray, List.getElem_cons_succ, List.getElem_cons_zero, List.setIfInBounds_toArray, List.set_cons_zero, List.set_cons_succ]
              refine wpAnyH_ready (rs := [8, 12]) (by kernel_rfl) (by simp) ?_
              refine AllReadyH.cons rfl (fun K hK => ?_) (AllReadyH.cons rfl (fun K hK => ?_) AllReadyH.nil)
              · rw [if_pos (by rfl)]
                obtain ⟨ga47, gc47, hv47, hs47⟩ := ho46.sl HBM.out
                have hl47 : ([] ++ putR e ++ [m.toNat]).length ≤ 1000000 := by have := HPL.out; simp; omega
                have hG47 := HG2.out
                generalize [] ++ putR e ++ [m.toNat] = BS at hv47 hs47 hl47 hG47
                subst hv47
                go_simp
                go_at_call 7
                refine (get_to hG47 HK64.out hs47 hl47).mono ?_
                rintro r x47 ⟨u47a, u47b, u47c, n47a, n47b, n47c, rfl, hm47, hy47⟩
                have HBx47 : Below wc.heap.size wc x47 := HBx46.trans (hy47.mono HBx46.size)
                refine hK.out _ _ ?_ (fun hHeld => ?_)
                · exact HSx.out _ HBx47
                clear hK K
                try simp only [Act.put, List.getElem_toArray, List.getElem_cons_succ, List.getElem_cons_zero, List.setIfInBounds_toArray, List.set_cons_zero, List.set_cons_succ]
                refine wpAnyH_take (i := 9) (v := ?_) rfl (by kernel_rfl) (by kernel_rfl) (by kernel_rfl) (fun _ _ _ h => h) (Or.inl ⟨by rfl, ?_⟩) (by assumption) ?_
                rotate_left
                · intro w hSw
                  (try dsimp only at hSw)
                  go_simp
                  all_goals with_reducible rfl
                try simp only [Act.put, List.getElem_toArray, List.getElem_cons_succ, List.getElem_cons_zero, List.setIfInBounds_toArray, List.set_cons_zero, List.set_cons_succ]
                refine wpAnyH_take (i := 10) (v := ?_) rfl (by kernel_rfl) (by kernel_rfl) (by kernel_rfl) (fun _ _ _ h => h) (Or.inl ⟨by rfl, ?_⟩) (by assumption) ?_
                rotate_left
                · intro w hSw
                  (try dsimp only at hSw)
                  go_simp
                  all_goals with_reducible rfl
                try simp only [Act.put, List.getElem_toArray, List.getElem_cons_succ, List.getElem_cons_zero, List.setIfInBounds_toArray, List.set_cons_zero, List.set_cons_succ]
                refine wpAnyH_take (i := 11) (v := ?_) rfl (by kernel_rfl) (by kernel_rfl) (by kernel_rfl) (fun _ _ _ h => h) (Or.inl ⟨by rfl, ?_⟩) (by assumption) ?_
                rotate_left
                · intro w hSw
                  (try dsimp only at hSw)
                  go_simp
                  all_goals with_reducible rfl
                try simp only [Act.put, List.getElem_toArray, List.getElem_cons_succ, List.getElem_cons_zero, List.setIfInBounds_toArray, List.set_cons_zero, List.set_cons_succ]
                refine wpAnyH_ready (rs := [12]) (by kernel_rfl) (by simp) ?_
                refine AllReadyH.cons rfl (fun K hK => ?_) AllReadyH.nil
                rw [if_pos (by rfl)]
                go_simp
                obtain ⟨x48, e48⟩ : ∃ x, x = x47.alloc (.cells #[.int .i64 0, .int .i64 0, .int .i64 0, .int .i64 0, .int .i64 0, .int .i64 0, .int .i64 0, .int .i64 0, .slice none 0 0, .int .i64 0, .int .i64 0, .int .i64 0, .int .i64 0, .slice none 0 0, .int .i64 0, .int .i64 0, .int .i64 0, .int .i64 0, .int .i64 0, .int .i64 0, .int .i64 0, .int .i64 0, .int .i64 0, .int .i64 0, .int .i64 0, .int .i64 0, .slice none 0 0] 30) := ⟨_, rfl⟩
                rw [← e48]
                have HBx48 : Below wc.heap.size wc x48 := by rw [e48]; exact HBx47.alloc HBx47.size _
                have hn48 : x48.heap[x47.heap.size]? = some (.cells #[.int .i64 0, .int .i64 0, .int .i64 0, .int .i64 0, .int .i64 0, .int .i64 0, .int .i64 0, .int .i64 0, .slice none 0 0, .int .i64 0, .int .i64 0, .int .i64 0, .int .i64 0, .slice none 0 0, .int .i64 0, .int .i64 0, .int .i64 0, .int .i64 0, .int .i64 0, .int .i64 0, .int .i64 0, .int .i64 0, .int .i64 0, .int .i64 0, .int .i64 0, .int .i64 0, .slice none 0 0] 30 (0, 0)) := by rw [e48]; exact heap_alloc_new _ _
                have hm48 : EvM x48 u47a u47b u47c n47a n47b n47c (ofKind 0) := by rw [e48]; exact hm47.on (bel1 (Below.refl _ _) _)
                refine hK.out _ _ ?_ (fun hHeld => ?_)
                · exact HSx.out _ HBx48
                clear hK K
                try simp only [Act.put, List.getElem_toArray, List.getElem_cons_succ, List.getElem_cons_zero, List.setIfInBounds_toArray, List.set_cons_zero, List.set_cons_succ]
                refine wpAnyH_ready (rs := [13]) (by kernel_rfl) (by simp) ?_
                refine AllReadyH.cons rfl (fun K hK => ?_) AllReadyH.nil
                rw [if_pos (by rfl)]
                refine wp_store_mid 30 (.tmp 12) (.tmp 48) (by rfl) x47.heap.size 0 (evC (ofKind 0) u47a u47b u47c n47a n47b n47c) (by rfl) (by rfl) (there_of_block hn48 (Nat.le_refl 27)) (by kernel_rfl) (by kernel_rfl) ?_
                have HBf : Below wc.heap.size wc (x48.setCells x47.heap.size 0 (evC (ofKind 0) u47a u47b u47c n47a n47b n47c).toList) := below_setCells' _ HBx47.size _ _ HBx48
                refine hK.out _ _ ?_ (fun hHeld => ?_)
                · exact HSx.out _ HBf
                clear hK K
                try simp only [Act.put, List.getElem_toArray, List.getElem_cons_succ, List.getElem_cons_zero, List.setIfInBounds_toArray, List.set_cons_zero, List.set_cons_succ]
                refine wpAnyH_take (i := 14) (v := ?_) rfl (by kernel_rfl) (by kernel_rfl) (by kernel_rfl) (fun _ _ _ h => h) (Or.inl ⟨by rfl, ?_⟩) (by assumption) ?_
                rotate_left
                · intro w hSw
                  (try dsimp only at hSw)
                  go_simp
                  all_goals with_reducible rfl
                try simp only [Act.put, List.getElem_toArray, List.getElem_cons_succ, List.getElem_cons_zero, List.setIfInBounds_toArray, List.set_cons_zero, List.set_cons_succ]
                refine wpAnyH_done (by kernel_rfl) ?_ _
                go_wp2_with fail
                go_meet
                case rel => exact ⟨x47.heap.size, u47a, u47b, u47c, n47a, n47b, n47c, rfl, rfl, ⟨store27 hn48 rfl, ⟨hm48.bands.keep (but_setCells _ _ _ _) (fun h => absurd h (by decide)), hm48.slots.keep (but_setCells _ _ _ _) (fun h => absurd h (by decide)), hm48.body.same_ (but_setCells _ _ _ _).size (fun h => absurd h (by decide)), hm48.v64⟩⟩, HBf⟩
              · rw [if_pos (by rfl)]
                go_simp
                obtain ⟨x49, e49⟩ : ∃ x, x = x46.alloc (.cells #[.int .i64 0, .int .i64 0, .int .i64 0, .int .i64 0, .int .i64 0, .int .i64 0, .int .i64 0, .int .i64 0, .slice none 0 0, .int .i64 0, .int .i64 0, .int .i64 0, .int .i64 0, .slice none 0 0, .int .i64 0, .int .i64 0, .int .i64 0, .int .i64 0, .int .i64 0, .int .i64 0, .int .i64 0, .int .i64 0, .int .i64 0, .int .i64 0, .int .i64 0, .int .i64 0, .slice none 0 0] 30) := ⟨_, rfl⟩
                rw [← e49]
                have HBx49 : Below wc.heap.size wc x49 := by rw [e49]; exact HBx46.alloc HBx46.size _
                have hn49 : x49.heap[x46.heap.size]? = some (.cells #[.int .i64 0, .int .i64 0, .int .i64 0, .int .i64 0, .int .i64 0, .int .i64 0, .int .i64 0, .int .i64 0, .slice none 0 0, .int .i64 0, .int .i64 0, .int .i64 0, .int .i64 0, .slice none 0 0, .int .i64 0, .int .i64 0, .int .i64 0, .int .i64 0, .int .i64 0, .int .i64 0, .int .i64 0, .int .i64 0, .int .i64 0, .int .i64 0, .int .i64 0, .int .i64 0, .slice none 0 0] 30 (0, 0)) := by rw [e49]; exact heap_alloc_new _ _
                have ho49 : OwnB x49 wc.heap.size 5 v46 ([] ++ putR e ++ [m.toNat]) := by rw [e49]; exact ho46.alloc _
                have nehz : (v46 : Value).ownBlock ≠ some x46.heap.size := fun e => by have h1 := (ho46.at_base e).2; omega
                clear e49
                refine hK.out _ _ ?_ (fun hHeld => ?_)
                · exact HSx.out _ HBx49
                clear hK K
                try simp only [Act.put, List.getElem_toArray, List.getElem_cons_succ, List.getElem_cons_zero, List.setIfInBounds_toArray, List.set_cons_zero, List.set_cons_succ]
                refine wpAnyH_ready (rs := [8]) (by kernel_rfl) (by simp) ?_
                refine AllReadyH.cons rfl (fun K hK => ?_) AllReadyH.nil
                rw [if_pos (by rfl)]
                obtain ⟨ga50, gc50, hv50, hs50⟩ := ho49.sl HBM.out
                have hl50 : ([] ++ putR e ++ [m.toNat]).length ≤ 1000000 := by have := HPL.out; simp; omega
                have hG50 := HG2.out
                generalize [] ++ putR e ++ [m.toNat] = BS at hv50 hs50 hl50 hG50
                subst hv50
                go_simp
                go_at_call 7
                refine (get_to hG50 HK64.out hs50 hl50).mono ?_
                rintro r x50 ⟨u50a, u50b, u50c, n50a, n50b, n50c, rfl, hm50, hy50⟩
                have HBx50 : Below wc.heap.size wc x50 := HBx49.trans (hy50.mono HBx49.size)
                have hz50 := (hy50.block _ (lt_of_heap hn49)).trans hn49
                refine hK.out _ _ ?_ (fun hHeld => ?_)
                · exact HSx.out _ HBx50
                clear hK K
                try simp only [Act.put, List.getElem_toArray, List.getElem_cons_succ, List.getElem_cons_zero, List.setIfInBounds_toArray, List.set_cons_zero, List.set_cons_succ]
                refine wpAnyH_take (i := 9) (v := ?_) rfl (by kernel_rfl) (by kernel_rfl) (by kernel_rfl) (fun _ _ _ h => h) (Or.inl ⟨by rfl, ?_⟩) (by assumption) ?_
                rotate_left
                · intro w hSw
                  (try dsimp only at hSw)
                  go_simp
                  all_goals with_reducible rfl
                try simp only [Act.put, List.getElem_toArray, List.getElem_cons_succ, List.getElem_cons_zero, List.setIfInBounds_toArray, List.set_cons_zero, List.set_cons_succ]
                refine wpAnyH_take (i := 10) (v := ?_) rfl (by kernel_rfl) (by kernel_rfl) (by kernel_rfl) (fun _ _ _ h => h) (Or.inl ⟨by rfl, ?_⟩) (by assumption) ?_
                rotate_left
                · intro w hSw
                  (try dsimp only at hSw)
                  go_simp
                  all_goals with_reducible rfl
                try simp only [Act.put, List.getElem_toArray, List.getElem_cons_succ, List.getElem_cons_zero, List.setIfInBounds_toArray, List.set_cons_zero, List.set_cons_succ]
                refine wpAnyH_take (i := 11) (v := ?_) rfl (by kernel_rfl) (by kernel_rfl) (by kernel_rfl) (fun _ _ _ h => h) (Or.inl ⟨by rfl, ?_⟩) (by assumption) ?_
                rotate_left
                · intro w hSw
                  (try dsimp only at hSw)
                  go_simp
                  all_goals with_reducible rfl
                try simp only [Act.put, List.getElem_toArray, List.getElem_cons_succ, List.getElem_cons_zero, List.setIfInBounds_toArray, List.set_cons_zero, List.set_cons_succ]
                refine wpAnyH_ready (rs := [13]) (by kernel_rfl) (by simp) ?_
                refine AllReadyH.cons rfl (fun K hK => ?_) AllReadyH.nil
                rw [if_pos (by rfl)]
                refine wp_store_mid 30 (.tmp 12) (.tmp 48) (by rfl) x46.heap.size 0 (evC (ofKind 0) u50a u50b u50c n50a n50b n50c) (by rfl) (by rfl) (there_of_block hz50 (Nat.le_refl 27)) (by kernel_rfl) (by kernel_rfl) ?_
                have HBf : Below wc.heap.size wc (x50.setCells x46.heap.size 0 (evC (ofKind 0) u50a u50b u50c n50a n50b n50c).toList) := below_setCells' _ HBx46.size _ _ HBx50
                refine hK.out _ _ ?_ (fun hHeld => ?_)
                · exact HSx.out _ HBf
                clear hK K
                try simp only [Act.put, List.getElem_toArray, List.getElem_cons_succ, List.getElem_cons_zero, List.setIfInBounds_toArray, List.set_cons_zero, List.set_cons_succ]
                refine wpAnyH_take (i := 14) (v := ?_) rfl (by kernel_rfl) (by kernel_rfl) (by kernel_rfl) (fun _ _ _ h => h) (Or.inl ⟨by rfl, ?_⟩) (by assumption) ?_
                rotate_left
                · intro w hSw
                  (try dsimp only at hSw)
                  go_simp
                  all_goals with_reducible rfl
                try simp only [Act.put, List.getElem_toArray, List.getElem_cons_succ, List.getElem_cons_zero, List.setIfInBounds_toArray, List.set_cons_zero, List.set_cons_succ]
                refine wpAnyH_done (by kernel_rfl) ?_ _
                go_wp2_with fail
                go_meet
                case rel => exact ⟨x46.heap.size, u50a, u50b, u50c, n50a, n50b, n50c, rfl, rfl, ⟨store27 hz50 rfl, ⟨hm50.bands.keep (but_setCells _ _ _ _) (fun h => absurd h (by decide)), hm50.slots.keep (but_setCells _ _ _ _) (fun h => absurd h (by decide)), hm50.body.same_ (but_setCells _ _ _ _).size (fun h => absurd h (by decide)), hm50.v64⟩⟩, HBf⟩
            · rw [if_pos (by rfl)]
              go_simp
              obtain ⟨x51, e51⟩ : ∃ x, x = x45.alloc (.cells #[.int .i64 0, .int .i64 0, .int .i64 0, .int .i64 0, .int .i64 0, .int .i64 0, .int .i64 0, .int .i64 0, .slice none 0 0, .int .i64 0, .int .i64 0, .int .i64 0, .int .i64 0, .slice none 0 0, .int .i64 0, .int .i64 0, .int .i64 0, .int .i64 0, .int .i64 0, .int .i64 0, .int .i64 0, .int .i64 0, .int .i64 0, .int .i64 0, .int .i64 0, .int .i64 0, .slice none 0 0] 30) := ⟨_, rfl⟩
              rw [← e51]
              have HBx51 : Below wc.heap.size wc x51 := by rw [e51]; exact HBx45.alloc HBx45.size _
              have hn51 : x51.heap[x45.heap.size]? = some (.cells #[.int .i64 0, .int .i64 0, .int .i64 0, .int .i64 0, .int .i64 0, .int .i64 0, .int .i64 0, .int .i64 0, .slice none 0 0, .int .i64 0, .int .i64 0, .int .i64 0, .int .i64 0, .slice none 0 0, .int .i64 0, .int .i64 0, .int .i64 0, .int .i64 0, .int .i64 0, .int .i64 0, .int .i64 0, .int .i64 0, .int .i64 0, .int .i64 0, .int .i64 0, .int .i64 0, .slice none 0 0] 30 (0, 0)) := by rw [e51]; exact heap_alloc_new _ _
              have ho51 : OwnB x51 wc.heap.size 5 v45 ([] ++ putR e) := by rw [e51]; exact ho45.alloc _
              have hl51 : x51.heap[wc.heap.size]? = some (.cells #[.int .u8 m] 5 (0, 0)) := by rw [e51]; exact (heap_alloc_old _ _ (lt_of_heap hl45)).trans hl45
              have nehz : (v45 : Value).ownBlock ≠ some x45.heap.size := fun e => by have h1 := (ho45.at_base e).2; omega
              clear e51
              refine hK.out _ _ ?_ (fun hHeld => ?_)
              · exact HSx.out _ HBx51
              clear hK K
              try simp only [Act.put, List.getElem_toArray, List.getElem_cons_succ, List.getElem_cons_zero, List.setIfInBounds_toArray, List.set_cons_zero, List.set_cons_succ]
              refine wpAnyH_ready (rs := [7]) (by kernel_rfl) (by simp) ?_
              refine AllReadyH.cons rfl (fun K hK => ?_) AllReadyH.nil
              rw [if_pos (by rfl)]
              refine wp_append_sl (.tmp 43) (.tmp 45) 28 rfl wc.heap.size _ Try.underlying28 info_u8 v45 ([] ++ putR e) (by rfl) ho51 _ (some ⟨wc.heap.size, 0, none⟩) 1 1 [m.toNat] (by rfl) (sl_one hl51 HM8.out) (by have := HPL.out; simp; omega) HBx51.size ?_
              intro v52 x52 ho52 hg52 hw52
              have HBx52 : Below wc.heap.size wc x52 := HBx51.grown hg52 HBx51.size (fun k hk => (ho51.at_base hk).1)
              have hz52 := (hg52.block _ (lt_of_heap hn51) (fun e => nehz e.symm)).trans hn51
              have nf52 : v52.ownBlock ≠ some x45.heap.size := fun e => by rcases hw52 with h1 | h1; exact nehz (h1.symm.trans e); have h2 := lt_of_heap hn51; rw [h1] at e; injection e with e; omega
              clear nehz
              have nehz := nf52
              clear nf52
              refine hK.out _ _ ?_ (fun hHeld => ?_)
              · exact HSx.out _ HBx52
              clear hK K
              try simp only [Act.put, List.getElem_toArray, List.getElem_cons_succ, List.getElem_cons_zero, List.setIfInBounds_toArray, List.set_cons_zero, List.set_cons_succ]
              refine wpAnyH_ready (rs := [8]) (by kernel_rfl) (by simp) ?_
              refine AllReadyH.cons rfl (fun K hK => ?_) AllReadyH.nil
              rw [if_pos (by rfl)]
              obtain ⟨ga53, gc53, hv53, hs53⟩ := ho52.sl HBM.out
              have hl53 : ([] ++ putR e ++ [m.toNat]).length ≤ 1000000 := by have := HPL.out; simp; omega
              have hG53 := HG2.out
              generalize [] ++ putR e ++ [m.toNat] = BS at hv53 hs53 hl53 hG53
              subst hv53
              go_simp
              go_at_call 7
              refine (get_to hG53 HK64.out hs53 hl53).mono ?_
              rintro r x53 ⟨u53a, u53b, u53c, n53a, n53b, n53c, rfl, hm53, hy53⟩
              have HBx53 : Below wc.heap.size wc x53 := HBx52.trans (hy53.mono HBx52.size)
              have hz53 := (hy53.block _ (lt_of_heap hz52)).trans hz52
              refine hK.out _ _ ?_ (fun hHeld => ?_)
              · exact HSx.out _ HBx53
              clear hK K
              try simp only [Act.put, List.getElem_toArray, List.getElem_cons_succ, List.getElem_cons_zero, List.setIfInBounds_toArray, List.set_cons_zero, List.set_cons_succ]
              refine wpAnyH_take (i := 9) (v := ?_) rfl (by kernel_rfl) (by kernel_rfl) (by kernel_rfl) (fun _ _ _ h => h) (Or.inl ⟨by rfl, ?_⟩) (by assumption) ?_
              rotate_left
              · intro w hSw
                (try dsimp only at hSw)
                go_simp
                all_goals with_reducible rfl
              try simp only [Act.put, List.getElem_toArray, List.getElem_cons_succ, List.getElem_cons_zero, List.setIfInBounds_toArray, List.set_cons_zero, List.set_cons_succ]
              refine wpAnyH_take (i := 10) (v := ?_) rfl (by kernel_rfl) (by kernel_rfl) (by kernel_rfl) (fun _ _ _ h => h) (Or.inl ⟨by rfl, ?_⟩) (by assumption) ?_
              rotate_left
              · intro w hSw
                (try dsimp only at hSw)
                go_simp
                all_goals with_reducible rfl
              try simp only [Act.put, List.getElem_toArray, List.getElem_cons_succ, List.getElem_cons_zero, List.setIfInBounds_toArray, List.set_cons_zero, List.set_cons_succ]
              refine wpAnyH_take (i := 11) (v := ?_) rfl (by kernel_rfl) (by kernel_rfl) (by kernel_rfl) (fun _ _ _ h => h) (Or.inl ⟨by rfl, ?_⟩) (by assumption) ?_
              rotate_left
              · intro w hSw
                (try dsimp only at hSw)
                go_simp
                all_goals with_reducible rfl
              try simp only [Act.put, List.getElem_toArray, List.getElem_cons_succ, List.getElem_cons_zero, List.setIfInBounds_toArray, List.set_cons_zero, List.set_cons_succ]
              refine wpAnyH_ready (rs := [13]) (by kernel_rfl) (by simp) ?_
              refine AllReadyH.cons rfl (fun K hK => ?_) AllReadyH.nil
              rw [if_pos (by rfl)]
              refine wp_store_mid 30 (.tmp 12) (.tmp 48) (by rfl) x45.heap.size 0 (evC (ofKind 0) u53a u53b u53c n53a n53b n53c) (by rfl) (by rfl) (there_of_block hz53 (Nat.le_refl 27)) (by kernel_rfl) (by kernel_rfl) ?_
              have HBf : Below wc.heap.size wc (x53.setCells x45.heap.size 0 (evC (ofKind 0) u53a u53b u53c n53a n53b n53c).toList) := below_setCells' _ HBx45.size _ _ HBx53
              refine hK.out _ _ ?_ (fun hHeld => ?_)
              · exact HSx.out _ HBf
              clear hK K
              try simp only [Act.put, List.getElem_toArray, List.getElem_cons_succ, List.getElem_cons_zero, List.setIfInBounds_toArray, List.set_cons_zero, List.set_cons_succ]
              refine wpAnyH_take (i := 14) (v := ?_) rfl (by kernel_rfl) (by kernel_rfl) (by kernel_rfl) (fun _ _ _ h => h) (Or.inl ⟨by rfl, ?_⟩) (by assumption) ?_
              rotate_left
              · intro w hSw
                (try dsimp only at hSw)
                go_simp
                all_goals with_reducible rfl
              try simp only [Act.put, List.getElem_toArray, List.getElem_cons_succ, List.getElem_cons_zero, List.setIfInBounds_toArray, List.set_cons_zero, List.set_cons_succ]
              refine wpAnyH_done (by kernel_rfl) ?_ _
              go_wp2_with fail
              go_meet
              case rel => exact ⟨x45.heap.size, u53a, u53b, u53c, n53a, n53b, n53c, rfl, rfl, ⟨store27 hz53 rfl, ⟨hm53.bands.keep (but_setCells _ _ _ _) (fun h => absurd h (by decide)), hm53.slots.keep (but_setCells _ _ _ _) (fun h => absurd h (by decide)), hm53.body.same_ (but_setCells _ _ _ _).size (fun h => absurd h (by decide)), hm53.v64⟩⟩, HBf⟩
          · rw [if_pos (by rfl)]
            go_simp
            obtain ⟨x54, e54⟩ : ∃ x, x = x44.alloc (.cells #[.int .i64 0, .int .i64 0, .int .i64 0, .int .i64 0, .int .i64 0, .int .i64 0, .int .i64 0, .int .i64 0, .slice none 0 0, .int .i64 0, .int .i64 0, .int .i64 0, .int .i64 0, .slice none 0 0, .int .i64 0, .int .i64 0, .int .i64 0, .int .i64 0, .int .i64 0, .int .i64 0, .int .i64 0, .int .i64 0, .int .i64 0, .int .i64 0, .int .i64 0, .int .i64 0, .slice none 0 0] 30) := ⟨_, rfl⟩
            rw [← e54]
            have HBx54 : Below wc.heap.size wc x54 := by rw [e54]; exact HBx44.alloc HBx44.size _
            have hn54 : x54.heap[x44.heap.size]? = some (.cells #[.int .i64 0, .int .i64 0, .int .i64 0, .int .i64 0, .int .i64 0, .int .i64 0, .int .i64 0, .int .i64 0, .slice none 0 0, .int .i64 0, .int .i64 0, .int .i64 0, .int .i64 0, .slice none 0 0, .int .i64 0, .int .i64 0, .int .i64 0, .int .i64 0, .int .i64 0, .int .i64 0, .int .i64 0, .int .i64 0, .int .i64 0, .int .i64 0, .int .i64 0, .int .i64 0, .slice none 0 0] 30 (0, 0)) := by rw [e54]; exact heap_alloc_new _ _
            have ho54 : OwnB x54 wc.heap.size 5 (.slice (some ⟨x43.heap.size, 0, none⟩) 0 0) [] := by rw [e54]; exact hq44.alloc _
            have hl54 : x54.heap[wc.heap.size]? = some (.cells #[.int .u8 m] 5 (0, 0)) := by rw [e54]; exact (heap_alloc_old _ _ (lt_of_heap hl44)).trans hl44
            have nehz : ((Value.slice (some ⟨x43.heap.size, 0, none⟩) 0 0) : Value).ownBlock ≠ some x44.heap.size := fun e => by have h1 := (hq44.at_base e).2; omega
            clear e54
            refine hK.out _ _ ?_ (fun hHeld => ?_)
            · exact HSx.out _ HBx54
            clear hK K
            try simp only [Act.put, List.getElem_toArray, List.getElem_cons_succ, List.getElem_cons_zero, List.setIfInBounds_toArray, List.set_cons_zero, List.set_cons_succ]
            refine wpAnyH_ready (rs := [4]) (by kernel_rfl) (by simp) ?_
            refine AllReadyH.cons rfl (fun K hK => ?_) AllReadyH.nil
            rw [if_pos (by rfl)]
            refine wp_append_sl (.tmp 41) (.tmp 42) 28 rfl wc.heap.size _ Try.underlying28 info_u8 (.slice (some ⟨x43.heap.size, 0, none⟩) 0 0) [] (by rfl) ho54 _ pa (putR e).length pc (putR e) (by rfl) ((S4.out.below HBx54 (Nat.le_refl _)).more HBx54.size) (by have := HPL.out; simp; omega) HBx54.size ?_
            intro v55 x55 ho55 hg55 hw55
            have HBx55 : Below wc.heap.size wc x55 := HBx54.grown hg55 HBx54.size (fun k hk => (ho54.at_base hk).1)
            have hl55 := (hg55.block _ (lt_of_heap hl54) (fun e => nehl e.symm)).trans hl54
            have nf55 : v55.ownBlock ≠ some wc.heap.size := fun e => by rcases hw55 with h1 | h1; exact nehl (h1.symm.trans e); have h2 := lt_of_heap hl54; rw [h1] at e; injection e with e; omega
            clear nehl
            have nehl := nf55
            clear nf55
            have hz55 := (hg55.block _ (lt_of_heap hn54) (fun e => nehz e.symm)).trans hn54
            have nf55 : v55.ownBlock ≠ some x44.heap.size := fun e => by rcases hw55 with h1 | h1; exact nehz (h1.symm.trans e); have h2 := lt_of_heap hn54; rw [h1] at e; injection e with e; omega
            clear nehz
            have nehz := nf55
            clear nf55
            refine hK.out _ _ ?_ (fun hHeld => ?_)
            · exact HSx.out _ HBx55
            clear hK K
            try simp only [Act.put, List.getElem_toArray, List.getElem_cons_succ, List.getElem_cons_zero, List.setIfInBounds_toArray, List.set_cons_zero, List.set_cons_succ]
            refine wpAnyH_ready (rs := [7]) (by kernel_rfl) (by simp) ?_
            refine AllReadyH.cons rfl (fun K hK => ?_) AllReadyH.nil
            rw [if_pos (by rfl)]
            refine wp_append_sl (.tmp 43) (.tmp 45) 28 rfl wc.heap.size _ Try.underlying28 info_u8 v55 ([] ++ putR e) (by rfl) ho55 _ (some ⟨wc.heap.size, 0, none⟩) 1 1 [m.toNat] (by rfl) (sl_one hl55 HM8.out) (by have := HPL.out; simp; omega) HBx55.size ?_
            intro v56 x56 ho56 hg56 hw56
            have HBx56 : Below wc.heap.size wc x56 := HBx55.grown hg56 HBx55.size (fun k hk => (ho55.at_base hk).1)
            have hz56 := (hg56.block _ (lt_of_heap hz55) (fun e => nehz e.symm)).trans hz55
            have nf56 : v56.ownBlock ≠ some x44.heap.size := fun e => by rcases hw56 with h1 | h1; exact nehz (h1.symm.trans e); have h2 := lt_of_heap hz55; rw [h1] at e; injection e with e; omega
            clear nehz
            have nehz := nf56
            clear nf56
            refine hK.out _ _ ?_ (fun hHeld => ?_)
            · exact HSx.out _ HBx56
            clear hK K
            try simp only [Act.put, List.getElem_toArray, List.getElem_cons_succ, List.getElem_cons_zero, List.setIfInBounds_toArray, List.set_cons_zero, List.set_cons_succ]
            refine wpAnyH_ready (rs := [8]) (by kernel_rfl) (by simp) ?_
            refine AllReadyH.cons rfl (fun K hK => ?_) AllReadyH.nil
            rw [if_pos (by rfl)]
            obtain ⟨ga57, gc57, hv57, hs57⟩ := ho56.sl HBM.out
            have hl57 : ([] ++ putR e ++ [m.toNat]).length ≤ 1000000 := by have := HPL.out; simp; omega
            have hG57 := HG2.out
            generalize [] ++ putR e ++ [m.toNat] = BS at hv57 hs57 hl57 hG57
            subst hv57
            go_simp
            go_at_call 7
            refine (get_to hG57 HK64.out hs57 hl57).mono ?_
            rintro r x57 ⟨u57a, u57b, u57c, n57a, n57b, n57c, rfl, hm57, hy57⟩
            have HBx57 : Below wc.heap.size wc x57 := HBx56.trans (hy57.mono HBx56.size)
            have hz57 := (hy57.block _ (lt_of_heap hz56)).trans hz56
            refine hK.out _ _ ?_ (fun hHeld => ?_)
            · exact HSx.out _ HBx57
            clear hK K
            try simp only [Act.put, List.getElem_toArray, List.getElem_cons_succ, List.getElem_cons_zero, List.setIfInBounds_toArray, List.set_cons_zero, List.set_cons_succ]
            refine wpAnyH_take (i := 9) (v := ?_) rfl (by kernel_rfl) (by kernel_rfl) (by kernel_rfl) (fun _ _ _ h => h) (Or.inl ⟨by rfl, ?_⟩) (by assumption) ?_
            rotate_left
            · intro w hSw
              (try dsimp only at hSw)
              go_simp
              all_goals with_reducible rfl
            try simp only [Act.put, List.getElem_toArray, List.getElem_cons_succ, List.getElem_cons_zero, List.setIfInBounds_toArray, List.set_cons_zero, List.set_cons_succ]
            refine wpAnyH_take (i := 10) (v := ?_) rfl (by kernel_rfl) (by kernel_rfl) (by kernel_rfl) (fun _ _ _ h => h) (Or.inl ⟨by rfl, ?_⟩) (by assumption) ?_
            rotate_left
            · intro w hSw
              (try dsimp only at hSw)
              go_simp
              all_goals with_reducible rfl
            try simp only [Act.put, List.getElem_toArray, List.getElem_cons_succ, List.getElem_cons_zero, List.setIfInBounds_toArray, List.set_cons_zero, List.set_cons_succ]
            refine wpAnyH_take (i := 11) (v := ?_) rfl (by kernel_rfl) (by kernel_rfl) (by kernel_rfl) (fun _ _ _ h => h) (Or.inl ⟨by rfl, ?_⟩) (by assumption) ?_
            rotate_left
            · intro w hSw
              (try dsimp only at hSw)
              go_simp
              all_goals with_reducible rfl
            try simp only [Act.put, List.getElem_toArray, List.getElem_cons_succ, List.getElem_cons_zero, List.setIfInBounds_toArray, List.set_cons_zero, List.set_cons_succ]
            refine wpAnyH_ready (rs := [13]) (by kernel_rfl) (by simp) ?_
            refine AllReadyH.cons rfl (fun K hK => ?_) AllReadyH.nil
            rw [if_pos (by rfl)]
            refine wp_store_mid 30 (.tmp 12) (.tmp 48) (by rfl) x44.heap.size 0 (evC (ofKind 0) u57a u57b u57c n57a n57b n57c) (by rfl) (by rfl) (there_of_block hz57 (Nat.le_refl 27)) (by kernel_rfl) (by kernel_rfl) ?_
            have HBf : Below wc.heap.size wc (x57.setCells x44.heap.size 0 (evC (ofKind 0) u57a u57b u57c n57a n57b n57c).toList) := below_setCells' _ HBx44.size _ _ HBx57
            refine hK.out _ _ ?_ (fun hHeld => ?_)
            · exact HSx.out _ HBf
            clear hK K
            try simp only [Act.put, List.getElem_toArray, List.getElem_cons_succ, List.getElem_cons_zero, List.setIfInBounds_toArray, List.set_cons_zero, List.set_cons_succ]
            refine wpAnyH_take (i := 14) (v := ?_) rfl (by kernel_rfl) (by kernel_rfl) (by kernel_rfl) (fun _ _ _ h => h) (Or.inl ⟨by rfl, ?_⟩) (by assumption) ?_
            rotate_left
            · intro w hSw
              (try dsimp only at hSw)
              go_simp
              all_goals with_reducible rfl
            try simp only [Act.put, List.getElem_toArray, List.getElem_cons_succ, List.getElem_cons_zero, List.setIfInBounds_toArray, List.set_cons_zero, List.set_cons_succ]
            refine wpAnyH_done (by kernel_rfl) ?_ _
            go_wp2_with fail
            go_meet
            case rel => exact ⟨x44.heap.size, u57a, u57b, u57c, n57a, n57b, n57c, rfl, rfl, ⟨store27 hz57 rfl, ⟨hm57.bands.keep (but_setCells _ _ _ _) (fun h => absurd h (by decide)), hm57.slots.keep (but_setCells _ _ _ _) (fun h => absurd h (by decide)), hm57.body.same_ (but_setCells _ _ _ _).size (fun h => absurd h (by decide)), hm57.v64⟩⟩, HBf⟩
        · rw [if_pos (by rfl)]
          go_simp
          obtain ⟨x58, e58⟩ : ∃ x, x = x43.alloc (.cells #[.int .i64 0, .int .i64 0, .int .i64 0, .int .i64 0, .int .i64 0, .int .i64 0, .int .i64 0, .int .i64 0, .slice none 0 0, .int .i64 0, .int .i64 0, .int .i64 0, .int .i64 0, .slice none 0 0, .int .i64 0, .int .i64 0, .int .i64 0, .int .i64 0, .int .i64 0, .int .i64 0, .int .i64 0, .int .i64 0, .int .i64 0, .int .i64 0, .int .i64 0, .int .i64 0, .slice none 0 0] 30) := ⟨_, rfl⟩
          rw [← e58]
          have HBx58 : Below wc.heap.size wc x58 := by rw [e58]; exact HBx43.alloc HBx43.size _
          have hn58 : x58.heap[x43.heap.size]? = some (.cells #[.int .i64 0, .int .i64 0, .int .i64 0, .int .i64 0, .int .i64 0, .int .i64 0, .int .i64 0, .int .i64 0, .slice none 0 0, .int .i64 0, .int .i64 0, .int .i64 0, .int .i64 0, .slice none 0 0, .int .i64 0, .int .i64 0, .int .i64 0, .int .i64 0, .int .i64 0, .int .i64 0, .int .i64 0, .int .i64 0, .int .i64 0, .int .i64 0, .int .i64 0, .int .i64 0, .slice none 0 0] 30 (0, 0)) := by rw [e58]; exact heap_alloc_new _ _
          have hl58 : x58.heap[wc.heap.size]? = some (.cells #[.int .u8 m] 5 (0, 0)) := by rw [e58]; exact (heap_alloc_old _ _ (lt_of_heap hn43)).trans hn43
          clear e58
          refine hK.out _ _ ?_ (fun hHeld => ?_)
          · exact HSx.out _ HBx58
          clear hK K
          try simp only [Act.put, List.getElem_toArray, List.getElem_cons_succ, List.getElem_cons_zero, List.setIfInBounds_toArray, List.set_cons_zero, List.set_cons_succ]
          refine wpAnyH_ready (rs := [2]) (by kernel_rfl) (by simp) ?_
          refine AllReadyH.cons rfl (fun K hK => ?_) AllReadyH.nil
          rw [if_pos (by rfl)]
          go_simp
          obtain ⟨x59, e59⟩ : ∃ x, x = x58.alloc (.cells #[] 5) := ⟨_, rfl⟩
          rw [← e59]
          have HBx59 : Below wc.heap.size wc x59 := by rw [e59]; exact HBx58.alloc HBx58.size _
          have hn59 : x59.heap[x58.heap.size]? = some (.cells #[] 5 (0, 0)) := by rw [e59]; exact heap_alloc_new _ _
          have hl59 : x59.heap[wc.heap.size]? = some (.cells #[.int .u8 m] 5 (0, 0)) := by rw [e59]; exact (heap_alloc_old _ _ (lt_of_heap hl58)).trans hl58
          have hz59 : x59.heap[x43.heap.size]? = some (.cells #[.int .i64 0, .int .i64 0, .int .i64 0, .int .i64 0, .int .i64 0, .int .i64 0, .int .i64 0, .int .i64 0, .slice none 0 0, .int .i64 0, .int .i64 0, .int .i64 0, .int .i64 0, .slice none 0 0, .int .i64 0, .int .i64 0, .int .i64 0, .int .i64 0, .int .i64 0, .int .i64 0, .int .i64 0, .int .i64 0, .int .i64 0, .int .i64 0, .int .i64 0, .int .i64 0, .slice none 0 0] 30 (0, 0)) := by rw [e59]; exact (heap_alloc_old _ _ (lt_of_heap hn58)).trans hn58
          have hq59 : OwnB x59 wc.heap.size 5 (.slice (some ⟨x58.heap.size, 0, none⟩) 0 0) [] := by rw [e59]; exact OwnB.lit _ [] HBx58.size (by decide)
          have nehl : (Value.slice (some ⟨x58.heap.size, 0, none⟩) 0 0).ownBlock ≠ some wc.heap.size := fun e => by injection e with e; have := lt_of_heap hl58; simp only at e; omega
          have nehz : (Value.slice (some ⟨x58.heap.size, 0, none⟩) 0 0).ownBlock ≠ some x43.heap.size := fun e => by injection e with e; have := lt_of_heap hn58; simp only at e; omega
          clear e59
          refine hK.out _ _ ?_ (fun hHeld => ?_)
          · exact HSx.out _ HBx59
          clear hK K
          try simp only [Act.put, List.getElem_toArray, List.getElem_cons_succ, List.getElem_cons_zero, List.setIfInBounds_toArray, List.set_cons_zero, List.set_cons_succ]
          refine wpAnyH_ready (rs := [4]) (by kernel_rfl) (by simp) ?_
          refine AllReadyH.cons rfl (fun K hK => ?_) AllReadyH.nil
          rw [if_pos (by rfl)]
          refine wp_append_sl (.tmp 41) (.tmp 42) 28 rfl wc.heap.size _ Try.underlying28 info_u8 (.slice (some ⟨x58.heap.size, 0, none⟩) 0 0) [] (by rfl) hq59 _ pa (putR e).length pc (putR e) (by rfl) ((S4.out.below HBx59 (Nat.le_refl _)).more HBx59.size) (by have := HPL.out; simp; omega) HBx59.size ?_
          intro v60 x60 ho60 hg60 hw60
          have HBx60 : Below wc.heap.size wc x60 := HBx59.grown hg60 HBx59.size (fun k hk => (hq59.at_base hk).1)
          have hl60 := (hg60.block _ (lt_of_heap hl59) (fun e => nehl e.symm)).trans hl59
          have nf60 : v60.ownBlock ≠ some wc.heap.size := fun e => by rcases hw60 with h1 | h1; exact nehl (h1.symm.trans e); have h2 := lt_of_heap hl59; rw [h1] at e; injection e with e; omega
          clear nehl
          have nehl := nf60
          clear nf60
          have hz60 := (hg60.block _ (lt_of_heap hz59) (fun e => nehz e.symm)).trans hz59
          have nf60 : v60.ownBlock ≠ some x43.heap.size := fun e => by rcases hw60 with h1 | h1; exact nehz (h1.symm.trans e); have h2 := lt_of_heap hz59; rw [h1] at e; injection e with e; omega
          clear nehz
          have nehz := nf60
          clear nf60
          refine hK.out _ _ ?_ (fun hHeld => ?_)
          · exact HSx.out _ HBx60
          clear hK K
          try simp only [Act.put, List.getElem_toArray, List.getElem_cons_succ, List.getElem_cons_zero, List.setIfInBounds_toArray, List.set_cons_zero, List.set_cons_succ]
          refine wpAnyH_ready (rs := [7]) (by kernel_rfl) (by simp) ?_
          refine AllReadyH.cons rfl (fun K hK => ?_) AllReadyH.nil
          rw [if_pos (by rfl)]
          refine wp_append_sl (.tmp 43) (.tmp 45) 28 rfl wc.heap.size _ Try.underlying28 info_u8 v60 ([] ++ putR e) (by rfl) ho60 _ (some ⟨wc.heap.size, 0, none⟩) 1 1 [m.toNat] (by rfl) (sl_one hl60 HM8.out) (by have := HPL.out; simp; omega) HBx60.size ?_
          intro v61 x61 ho61 hg61 hw61
          have HBx61 : Below wc.heap.size wc x61 := HBx60.grown hg61 HBx60.size (fun k hk => (ho60.at_base hk).1)
          have hz61 := (hg61.block _ (lt_of_heap hz60) (fun e => nehz e.symm)).trans hz60
          have nf61 : v61.ownBlock ≠ some x43.heap.size := fun e => by rcases hw61 with h1 | h1; exact nehz (h1.symm.trans e); have h2 := lt_of_heap hz60; rw [h1] at e; injection e with e; omega
          clear nehz
          have nehz := nf61
          clear nf61
          refine hK.out _ _ ?_ (fun hHeld => ?_)
          · exact HSx.out _ HBx61
          clear hK K
          try simp only [Act.put, List.getElem_toArray, List.getElem_cons_succ, List.getElem_cons_zero, List.setIfInBounds_toArray, List.set_cons_zero, List.set_cons_succ]
          refine wpAnyH_ready (rs := [8]) (by kernel_rfl) (by simp) ?_
          refine AllReadyH.cons rfl (fun K hK => ?_) AllReadyH.nil
          rw [if_pos (by rfl)]
          obtain ⟨ga62, gc62, hv62, hs62⟩ := ho61.sl HBM.out
          have hl62 : ([] ++ putR e ++ [m.toNat]).length ≤ 1000000 := by have := HPL.out; simp; omega
          have hG62 := HG2.out
          generalize [] ++ putR e ++ [m.toNat] = BS at hv62 hs62 hl62 hG62
          subst hv62
          go_simp
          go_at_call 7
          refine (get_to hG62 HK64.out hs62 hl62).mono ?_
          rintro r x62 ⟨u62a, u62b, u62c, n62a, n62b, n62c, rfl, hm62, hy62⟩
          have HBx62 : Below wc.heap.size wc x62 := HBx61.trans (hy62.mono HBx61.size)
          have hz62 := (hy62.block _ (lt_of_heap hz61)).trans hz61
          refine hK.out _ _ ?_ (fun hHeld => ?_)
          · exact HSx.out _ HBx62
          clear hK K
          try simp only [Act.put, List.getElem_toArray, List.getElem_cons_succ, List.getElem_cons_zero, List.setIfInBounds_toArray, List.set_cons_zero, List.set_cons_succ]
          refine wpAnyH_take (i := 9) (v := ?_) rfl (by kernel_rfl) (by kernel_rfl) (by kernel_rfl) (fun _ _ _ h => h) (Or.inl ⟨by rfl, ?_⟩) (by assumption) ?_
          rotate_left
          · intro w hSw
            (try dsimp only at hSw)
            go_simp
            all_goals with_reducible rfl
          try simp only [Act.put, List.getElem_toArray, List.getElem_cons_succ, List.getElem_cons_zero, List.setIfInBounds_toArray, List.set_cons_zero, List.set_cons_succ]
          refine wpAnyH_take (i := 10) (v := ?_) rfl (by kernel_rfl) (by kernel_rfl) (by kernel_rfl) (fun _ _ _ h => h) (Or.inl ⟨by rfl, ?_⟩) (by assumption) ?_
          rotate_left
          · intro w hSw
            (try dsimp only at hSw)
            go_simp
            all_goals with_reducible rfl
          try simp only [Act.put, List.getElem_toArray, List.getElem_cons_succ, List.getElem_cons_zero, List.setIfInBounds_toArray, List.set_cons_zero, List.set_cons_succ]
          refine wpAnyH_take (i := 11) (v := ?_) rfl (by kernel_rfl) (by kernel_rfl) (by kernel_rfl) (fun _ _ _ h => h) (Or.inl ⟨by rfl, ?_⟩) (by assumption) ?_
          rotate_left
          · intro w hSw
            (try dsimp only at hSw)
            go_simp
            all_goals with_reducible rfl
          try simp only [Act.put, List.getElem_toArray, List.getElem_cons_succ, List.getElem_cons_zero, List.setIfInBounds_toArray, List.set_cons_zero, List.set_cons_succ]
          refine wpAnyH_ready (rs := [13]) (by kernel_rfl) (by simp) ?_
          refine AllReadyH.cons rfl (fun K hK => ?_) AllReadyH.nil
          rw [if_pos (by rfl)]
          refine wp_store_mid 30 (.tmp 12) (.tmp 48) (by rfl) x43.heap.size 0 (evC (ofKind 0) u62a u62b u62c n62a n62b n62c) (by rfl) (by rfl) (there_of_block hz62 (Nat.le_refl 27)) (by kernel_rfl) (by kernel_rfl) ?_
          have HBf : Below wc.heap.size wc (x62.setCells x43.heap.size 0 (evC (ofKind 0) u62a u62b u62c n62a n62b n62c).toList) := below_setCells' _ HBx43.size _ _ HBx62
          refine hK.out _ _ ?_ (fun hHeld => ?_)
          · exact HSx.out _ HBf
          clear hK K
          try simp only [Act.put, List.getElem_toArray, List.getElem_cons_succ, List.getElem_cons_zero, List.setIfInBounds_toArray, List.set_cons_zero, List.set_cons_succ]
          refine wpAnyH_take (i := 14) (v := ?_) rfl (by kernel_rfl) (by kernel_rfl) (by kernel_rfl) (fun _ _ _ h => h) (Or.inl ⟨by rfl, ?_⟩) (by assumption) ?_
          rotate_left
          · intro w hSw
            (try dsimp only at hSw)
            go_simp
            all_goals with_reducible rfl
          try simp only [Act.put, List.getElem_toArray, List.getElem_cons_succ, List.getElem_cons_zero, List.setIfInBounds_toArray, List.set_cons_zero, List.set_cons_succ]
          refine wpAnyH_done (by kernel_rfl) ?_ _
          go_wp2_with fail
          go_meet
          case rel => exact ⟨x43.heap.size, u62a, u62b, u62c, n62a, n62b, n62c, rfl, rfl, ⟨store27 hz62 rfl, ⟨hm62.bands.keep (but_setCells _ _ _ _) (fun h => absurd h (by decide)), hm62.slots.keep (but_setCells _ _ _ _) (fun h => absurd h (by decide)), hm62.body.same_ (but_setCells _ _ _ _).size (fun h => absurd h (by decide)), hm62.v64⟩⟩, HBf⟩
      · rw [if_pos (by rfl)]
        go_simp
        obtain ⟨x63, e63⟩ : ∃ x, x = (wc.alloc (.cells #[.int .i64 0, .int .i64 0, .int .i64 0, .int .i64 0, .int .i64 0, .int .i64 0, .int .i64 0, .int .i64 0, .slice none 0 0, .int .i64 0, .int .i64 0, .int .i64 0, .int .i64 0, .slice none 0 0, .int .i64 0, .int .i64 0, .int .i64 0, .int .i64 0, .int .i64 0, .int .i64 0, .int .i64 0, .int .i64 0, .int .i64 0, .int .i64 0, .int .i64 0, .int .i64 0, .slice none 0 0] 30)).drew := ⟨_, rfl⟩
        rw [← e63]
        have HBx63 : Below wc.heap.size wc x63 := by rw [e63]; exact ((Below.refl wc.heap.size wc).alloc (Nat.le_refl _) _).drew
        have hn63 : x63.heap[wc.heap.size]? = some (.cells #[.int .i64 0, .int .i64 0, .int .i64 0, .int .i64 0, .int .i64 0, .int .i64 0, .int .i64 0, .int .i64 0, .slice none 0 0, .int .i64 0, .int .i64 0, .int .i64 0, .int .i64 0, .slice none 0 0, .int .i64 0, .int .i64 0, .int .i64 0, .int .i64 0, .int .i64 0, .int .i64 0, .int .i64 0, .int .i64 0, .int .i64 0, .int .i64 0, .int .i64 0, .int .i64 0, .slice none 0 0] 30 (0, 0)) := by rw [e63]; exact heap_alloc_new _ _
        clear e63
        refine hK.out _ _ ?_ (fun hHeld => ?_)
        · exact HSx.out _ HBx63
        clear hK K
        try simp only [Act.put, List.getElem_toArray, List.getElem_cons_succ, List.getElem_cons_zero, List.setIfInBounds_toArray, List.set_cons_zero, List.set_cons_succ]
        refine wpAnyH_ready (rs := [2, 6]) (by kernel_rfl) (by simp) ?_
        refine AllReadyH.cons rfl (fun K hK => ?_) (AllReadyH.cons rfl (fun K hK => ?_) AllReadyH.nil)
        · rw [if_pos (by rfl)]
          go_simp
          obtain ⟨x64, e64⟩ : ∃ x, x = x63.alloc (.cells #[] 5) := ⟨_, rfl⟩
          rw [← e64]
          have HBx64 : Below wc.heap.size wc x64 := by rw [e64]; exact HBx63.alloc HBx63.size _
          have hn64 : x64.heap[x63.heap.size]? = some (.cells #[] 5 (0, 0)) := by rw [e64]; exact heap_alloc_new _ _
          have hz64 : x64.heap[wc.heap.size]? = some (.cells #[.int .i64 0, .int .i64 0, .int .i64 0, .int .i64 0, .int .i64 0, .int .i64 0, .int .i64 0, .int .i64 0, .slice none 0 0, .int .i64 0, .int .i64 0, .int .i64 0, .int .i64 0, .slice none 0 0, .int .i64 0, .int .i64 0, .int .i64 0, .int .i64 0, .int .i64 0, .int .i64 0, .int .i64 0, .int .i64 0, .int .i64 0, .int .i64 0, .int .i64 0, .int .i64 0, .slice none 0 0] 30 (0, 0)) := by rw [e64]; exact (heap_alloc_old _ _ (lt_of_heap hn63)).trans hn63
          have hq64 : OwnB x64 wc.heap.size 5 (.slice (some ⟨x63.heap.size, 0, none⟩) 0 0) [] := by rw [e64]; exact OwnB.lit _ [] HBx63.size (by decide)
          have nehz : (Value.slice (some ⟨x63.heap.size, 0, none⟩) 0 0).ownBlock ≠ some wc.heap.size := fun e => by injection e with e; have := lt_of_heap hn63; simp only at e; omega
          clear e64
          refine hK.out _ _ ?_ (fun hHeld => ?_)
          · exact HSx.out _ HBx64
          clear hK K
          try simp only [Act.put, List.getElem_toArray, List.getElem_cons_succ, List.getElem_cons_zero, List.setIfInBounds_toArray, List.set_cons_zero, List.set_cons_succ]
          refine wpAnyH_ready (rs := [4, 6]) (by kernel_rfl) (by simp) ?_
          refine AllReadyH.cons rfl (fun K hK => ?_) (AllReadyH.cons rfl (fun K hK => ?_) AllReadyH.nil)
          · rw [if_pos (by rfl)]
            refine wp_append_sl (.tmp 41) (.tmp 42) 28 rfl wc.heap.size _ Try.underlying28 info_u8 (.slice (some ⟨x63.heap.size, 0, none⟩) 0 0) [] (by rfl) hq64 _ pa (putR e).length pc (putR e) (by rfl) ((S4.out.below HBx64 (Nat.le_refl _)).more HBx64.size) (by have := HPL.out; simp; omega) HBx64.size ?_
            intro v65 x65 ho65 hg65 hw65
            have HBx65 : Below wc.heap.size wc x65 := HBx64.grown hg65 HBx64.size (fun k hk => (hq64.at_base hk).1)
            have hz65 := (hg65.block _ (lt_of_heap hz64) (fun e => nehz e.symm)).trans hz64
            have nf65 : v65.ownBlock ≠ some wc.heap.size := fun e => by rcases hw65 with h1 | h1; exact nehz (h1.symm.trans e); have h2 := lt_of_heap hz64; rw [h1] at e; injection e with e; omega
            clear nehz
            have nehz := nf65
            clear nf65
            refine hK.out _ _ ?_ (fun hHeld => ?_)
            · exact HSx.out _ HBx65
            clear hK K
            try simp only [Act.put, List.getElem_toArray, List.getElem_cons_succ, List.getElem_cons_zero, List.setIfInBounds_toArray, List.set_cons_zero, List.set_cons_succ]
            refine wpAnyH_ready (rs := [6]) (by kernel_rfl) (by simp) ?_
            refine AllReadyH.cons rfl (fun K hK => ?_) AllReadyH.nil
            rw [if_pos (by rfl)]
            go_simp
            obtain ⟨x66, e66⟩ : ∃ x, x = x65.alloc (.cells #[.int .u8 m] 5) := ⟨_, rfl⟩
            rw [← e66]
            have HBx66 : Below wc.heap.size wc x66 := by rw [e66]; exact HBx65.alloc HBx65.size _
            have hn66 : x66.heap[x65.heap.size]? = some (.cells #[.int .u8 m] 5 (0, 0)) := by rw [e66]; exact heap_alloc_new _ _
            have ho66 : OwnB x66 wc.heap.size 5 v65 ([] ++ putR e) := by rw [e66]; exact ho65.alloc _
            have hz66 : x66.heap[wc.heap.size]? = some (.cells #[.int .i64 0, .int .i64 0, .int .i64 0, .int .i64 0, .int .i64 0, .int .i64 0, .int .i64 0, .int .i64 0, .slice none 0 0, .int .i64 0, .int .i64 0, .int .i64 0, .int .i64 0, .slice none 0 0, .int .i64 0, .int .i64 0, .int .i64 0, .int .i64 0, .int .i64 0, .int .i64 0, .int .i64 0, .int .i64 0, .int .i64 0, .int .i64 0, .int .i64 0, .int .i64 0, .slice none 0 0] 30 (0, 0)) := by rw [e66]; exact (heap_alloc_old _ _ (lt_of_heap hz65)).trans hz65
            have nehl : (v65 : Value).ownBlock ≠ some x65.heap.size := fun e => by have h1 := (ho65.at_base e).2; omega
            clear e66
            refine hK.out _ _ ?_ (fun hHeld => ?_)
            · exact HSx.out _ HBx66
            clear hK K
            try simp only [Act.put, List.getElem_toArray, List.getElem_cons_succ, List.getElem_cons_zero, List.setIfInBounds_toArray, List.set_cons_zero, List.set_cons_succ]
            refine wpAnyH_ready (rs := [7]) (by kernel_rfl) (by simp) ?_
            refine AllReadyH.cons rfl (fun K hK => ?_) AllReadyH.nil
            rw [if_pos (by rfl)]
            refine wp_append_sl (.tmp 43) (.tmp 45) 28 rfl wc.heap.size _ Try.underlying28 info_u8 v65 ([] ++ putR e) (by rfl) ho66 _ (some ⟨x65.heap.size, 0, none⟩) 1 1 [m.toNat] (by rfl) (sl_one hn66 HM8.out) (by have := HPL.out; simp; omega) HBx66.size ?_
            intro v67 x67 ho67 hg67 hw67
            have HBx67 : Below wc.heap.size wc x67 := HBx66.grown hg67 HBx66.size (fun k hk => (ho66.at_base hk).1)
            have hz67 := (hg67.block _ (lt_of_heap hz66) (fun e => nehz e.symm)).trans hz66
            have nf67 : v67.ownBlock ≠ some wc.heap.size := fun e => by rcases hw67 with h1 | h1; exact nehz (h1.symm.trans e); have h2 := lt_of_heap hz66; rw [h1] at e; injection e with e; omega
            clear nehz
            have nehz := nf67
            clear nf67
            refine hK.out _ _ ?_ (fun hHeld => ?_)
            · exact HSx.out _ HBx67
            clear hK K
            try simp only [Act.put, List.getElem_toArray, List.getElem_cons_succ, List.getElem_cons_zero, List.setIfInBounds_toArray, List.set_cons_zero, List.set_cons_succ]
            refine wpAnyH_ready (rs := [8]) (by kernel_rfl) (by simp) ?_
            refine AllReadyH.cons rfl (fun K hK => ?_) AllReadyH.nil
            rw [if_pos (by rfl)]
            obtain ⟨ga68, gc68, hv68, hs68⟩ := ho67.sl HBM.out
            have hl68 : ([] ++ putR e ++ [m.toNat]).length ≤ 1000000 := by have := HPL.out; simp; omega
            have hG68 := HG2.out
            generalize [] ++ putR e ++ [m.toNat] = BS at hv68 hs68 hl68 hG68
            subst hv68
            go_simp
            go_at_call 7
            refine (get_to hG68 HK64.out hs68 hl68).mono ?_
            rintro r x68 ⟨u68a, u68b, u68c, n68a, n68b, n68c, rfl, hm68, hy68⟩
            have HBx68 : Below wc.heap.size wc x68 := HBx67.trans (hy68.mono HBx67.size)
            have hz68 := (hy68.block _ (lt_of_heap hz67)).trans hz67
            refine hK.out _ _ ?_ (fun hHeld => ?_)
            · exact HSx.out _ HBx68
            clear hK K
            try simp only [Act.put, List.getElem_toArray, List.getElem_cons_succ, List.getElem_cons_zero, List.setIfInBounds_toArray, List.set_cons_zero, List.set_cons_succ]
            refine wpAnyH_take (i := 9) (v := ?_) rfl (by kernel_rfl) (by kernel_rfl) (by kernel_rfl) (fun _ _ _ h => h) (Or.inl ⟨by rfl, ?_⟩) (by assumption) ?_
            rotate_left
            · intro w hSw
              (try dsimp only at hSw)
              go_simp
              all_goals with_reducible rfl
            try simp only [Act.put, List.getElem_toArray, List.getElem_cons_succ, List.getElem_cons_zero, List.setIfInBounds_toArray, List.set_cons_zero, List.set_cons_succ]
            refine wpAnyH_take (i := 10) (v := ?_) rfl (by kernel_rfl) (by kernel_rfl) (by kernel_rfl) (fun _ _ _ h => h) (Or.inl ⟨by rfl, ?_⟩) (by assumption) ?_
            rotate_left
            · intro w hSw
              (try dsimp only at hSw)
              go_simp
              all_goals with_reducible rfl
            try simp only [Act.put, List.getElem_toArray, List.getElem_cons_succ, List.getElem_cons_zero, List.setIfInBounds_toArray, List.set_cons_zero, List.set_cons_succ]
            refine wpAnyH_take (i := 11) (v := ?_) rfl (by kernel_rfl) (by kernel_rfl) (by kernel_rfl) (fun _ _ _ h => h) (Or.inl ⟨by rfl, ?_⟩) (by assumption) ?_
            rotate_left
            · intro w hSw
              (try dsimp only at hSw)
              go_simp
              all_goals with_reducible rfl
            try simp only [Act.put, List.getElem_toArray, List.getElem_cons_succ, List.getElem_cons_zero, List.setIfInBounds_toArray, List.set_cons_zero, List.set_cons_succ]
            refine wpAnyH_ready (rs := [13]) (by kernel_rfl) (by simp) ?_
            refine AllReadyH.cons rfl (fun K hK => ?_) AllReadyH.nil
            rw [if_pos (by rfl)]
            refine wp_store_mid 30 (.tmp 12) (.tmp 48) (by rfl) wc.heap.size 0 (evC (ofKind 0) u68a u68b u68c n68a n68b n68c) (by rfl) (by rfl) (there_of_block hz68 (Nat.le_refl 27)) (by kernel_rfl) (by kernel_rfl) ?_
            have HBf : Below wc.heap.size wc (x68.setCells wc.heap.size 0 (evC (ofKind 0) u68a u68b u68c n68a n68b n68c).toList) := below_setCells' _ (Nat.le_refl _) _ _ HBx68
            refine hK.out _ _ ?_ (fun hHeld => ?_)
            · exact HSx.out _ HBf
            clear hK K
            try simp only [Act.put, List.getElem_toArray, List.getElem_cons_succ, List.getElem_cons_zero, List.setIfInBounds_toArray, List.set_cons_zero, List.set_cons_succ]
            refine wpAnyH_take (i := 14) (v := ?_) rfl (by kernel_rfl) (by kernel_rfl) (by kernel_rfl) (fun _ _ _ h => h) (Or.inl ⟨by rfl, ?_⟩) (by assumption) ?_
            rotate_left
            · intro w hSw
              (try dsimp only at hSw)
              go_simp
              all_goals with_reducible rfl
            try simp only [Act.put, List.getElem_toArray, List.getElem_cons_succ, List.getElem_cons_zero, List.setIfInBounds_toArray, List.set_cons_zero, List.set_cons_succ]
            refine wpAnyH_done (by kernel_rfl) ?_ _
            go_wp2_with fail
            go_meet
            case rel => exact ⟨wc.heap.size, u68a, u68b, u68c, n68a, n68b, n68c, rfl, rfl, ⟨store27 hz68 rfl, ⟨hm68.bands.keep (but_setCells _ _ _ _) (fun h => absurd h (by decide)), hm68.slots.keep (but_setCells _ _ _ _) (fun h => absurd h (by decide)), hm68.body.same_ (but_setCells _ _ _ _).size (fun h => absurd h (by decide)), hm68.v64⟩⟩, HBf⟩
          · rw [if_pos (by rfl)]
            go_simp
            obtain ⟨x69, e69⟩ : ∃ x, x = x64.alloc (.cells #[.int .u8 m] 5) := ⟨_, rfl⟩
            rw [← e69]
            have HBx69 : Below wc.heap.size wc x69 := by rw [e69]; exact HBx64.alloc HBx64.size _
            have hn69 : x69.heap[x64.heap.size]? = some (.cells #[.int .u8 m] 5 (0, 0)) := by rw [e69]; exact heap_alloc_new _ _
            have ho69 : OwnB x69 wc.heap.size 5 (.slice (some ⟨x63.heap.size, 0, none⟩) 0 0) [] := by rw [e69]; exact hq64.alloc _
            have hz69 : x69.heap[wc.heap.size]? = some (.cells #[.int .i64 0, .int .i64 0, .int .i64 0, .int .i64 0, .int .i64 0, .int .i64 0, .int .i64 0, .int .i64 0, .slice none 0 0, .int .i64 0, .int .i64 0, .int .i64 0, .int .i64 0, .slice none 0 0, .int .i64 0, .int .i64 0, .int .i64 0, .int .i64 0, .int .i64 0, .int .i64 0, .int .i64 0, .int .i64 0, .int .i64 0, .int .i64 0, .int .i64 0, .int .i64 0, .slice none 0 0] 30 (0, 0)) := by rw [e69]; exact (heap_alloc_old _ _ (lt_of_heap hz64)).trans hz64
            have nehl : ((Value.slice (some ⟨x63.heap.size, 0, none⟩) 0 0) : Value).ownBlock ≠ some x64.heap.size := fun e => by have h1 := (hq64.at_base e).2; omega
            clear e69
            refine hK.out _ _ ?_ (fun hHeld => ?_)
            · exact HSx.out _ HBx69
            clear hK K
            try simp only [Act.put, List.getElem_toArray, List.getElem_cons_succ, List.getElem_cons_zero, List.setIfInBounds_toArray, List.set_cons_zero, List.set_cons_succ]
            refine wpAnyH_ready (rs := [4]) (by kernel_rfl) (by simp) ?_
            refine AllReadyH.cons rfl (fun K hK => ?_) AllReadyH.nil
            rw [if_pos (by rfl)]
            refine wp_append_sl (.tmp 41) (.tmp 42) 28 rfl wc.heap.size _ Try.underlying28 info_u8 (.slice (some ⟨x63.heap.size, 0, none⟩) 0 0) [] (by rfl) ho69 _ pa (putR e).length pc (putR e) (by rfl) ((S4.out.below HBx69 (Nat.le_refl _)).more HBx69.size) (by have := HPL.out; simp; omega) HBx69.size ?_
            intro v70 x70 ho70 hg70 hw70
            have HBx70 : Below wc.heap.size wc x70 := HBx69.grown hg70 HBx69.size (fun k hk => (ho69.at_base hk).1)
            have hl70 := (hg70.block _ (lt_of_heap hn69) (fun e => nehl e.symm)).trans hn69
            have nf70 : v70.ownBlock ≠ some x64.heap.size := fun e => by rcases hw70 with h1 | h1; exact nehl (h1.symm.trans e); have h2 := lt_of_heap hn69; rw [h1] at e; injection e with e; omega
            clear nehl
            have nehl := nf70
            clear nf70
            have hz70 := (hg70.block _ (lt_of_heap hz69) (fun e => nehz e.symm)).trans hz69
            have nf70 : v70.ownBlock ≠ some wc.heap.size := fun e => by rcases hw70 with h1 | h1; exact nehz (h1.symm.trans e); have h2 := lt_of_heap hz69; rw [h1] at e; injection e with e; omega
            clear nehz
            have nehz := nf70
            clear nf70
            refine hK.out _ _ ?_ (fun hHeld => ?_)
            · exact HSx.out _ HBx70
            clear hK K
            try simp only [Act.put, List.getElem_toArray, List.getElem_cons_succ, List.getElem_cons_zero, List.setIfInBounds_toArray, List.set_cons_zero, List.set_cons_succ]
            refine wpAnyH_ready (rs := [7]) (by kernel_rfl) (by simp) ?_
            refine AllReadyH.cons rfl (fun K hK => ?_) AllReadyH.nil
            rw [if_pos (by rfl)]
            refine wp_append_sl (.tmp 43) (.tmp 45) 28 rfl wc.heap.size _ Try.underlying28 info_u8 v70 ([] ++ putR e) (by rfl) ho70 _ (some ⟨x64.heap.size, 0, none⟩) 1 1 [m.toNat] (by rfl) (sl_one hl70 HM8.out) (by have := HPL.out; simp; omega) HBx70.size ?_
            intro v71 x71 ho71 hg71 hw71
            have HBx71 : Below wc.heap.size wc x71 := HBx70.grown hg71 HBx70.size (fun k hk => (ho70.at_base hk).1)
            have hz71 := (hg71.block _ (lt_of_heap hz70) (fun e => nehz e.symm)).trans hz70
            have nf71 : v71.ownBlock ≠ some wc.heap.size := fun e => by rcases hw71 with h1 | h1; exact nehz (h1.symm.trans e); have h2 := lt_of_heap hz70; rw [h1] at e; injection e with e; omega
            clear nehz
            have nehz := nf71
            clear nf71
            refine hK.out _ _ ?_ (fun hHeld => ?_)
            · exact HSx.out _ HBx71
            clear hK K
            try simp only [Act.put, List.getElem_toArray, List.getElem_cons_succ, List.getElem_cons_zero, List.setIfInBounds_toArray, List.set_cons_zero, List.set_cons_succ]
            refine wpAnyH_ready (rs := [8]) (by kernel_rfl) (by simp) ?_
            refine AllReadyH.cons rfl (fun K hK => ?_) AllReadyH.nil
            rw [if_pos (by rfl)]
            obtain ⟨ga72, gc72, hv72, hs72⟩ := ho71.sl HBM.out
            have hl72 : ([] ++ putR e ++ [m.toNat]).length ≤ 1000000 := by have := HPL.out; simp; omega
            have hG72 := HG2.out
            generalize [] ++ putR e ++ [m.toNat] = BS at hv72 hs72 hl72 hG72
            subst hv72
            go_simp
            go_at_call 7
            refine (get_to hG72 HK64.out hs72 hl72).mono ?_
            rintro r x72 ⟨u72a, u72b, u72c, n72a, n72b, n72c, rfl, hm72, hy72⟩
            have HBx72 : Below wc.heap.size wc x72 := HBx71.trans (hy72.mono HBx71.size)
            have hz72 := (hy72.block _ (lt_of_heap hz71)).trans hz71
            refine hK.out _ _ ?_ (fun hHeld => ?_)
            · exact HSx.out _ HBx72
            clear hK K
            try simp only [Act.put, List.getElem_toArray, List.getElem_cons_succ, List.getElem_cons_zero, List.setIfInBounds_toArray, List.set_cons_zero, List.set_cons_succ]
            refine wpAnyH_take (i := 9) (v := ?_) rfl (by kernel_rfl) (by kernel_rfl) (by kernel_rfl) (fun _ _ _ h => h) (Or.inl ⟨by rfl, ?_⟩) (by assumption) ?_
            rotate_left
            · intro w hSw
              (try dsimp only at hSw)
              go_simp
              all_goals with_reducible rfl
            try simp only [Act.put, List.getElem_toArray, List.getElem_cons_succ, List.getElem_cons_zero, List.setIfInBounds_toArray, List.set_cons_zero, List.set_cons_succ]
            refine wpAnyH_take (i := 10) (v := ?_) rfl (by kernel_rfl) (by kernel_rfl) (by kernel_rfl) (fun _ _ _ h => h) (Or.inl ⟨by rfl, ?_⟩) (by assumption) ?_
            rotate_left
            · intro w hSw
              (try dsimp only at hSw)
              go_simp
              all_goals with_reducible rfl
            try simp only [Act.put, List.getElem_toArray, List.getElem_cons_succ, List.getElem_cons_zero, List.setIfInBounds_toArray, List.set_cons_zero, List.set_cons_succ]
            refine wpAnyH_take (i := 11) (v := ?_) rfl (by kernel_rfl) (by kernel_rfl) (by kernel_rfl) (fun _ _ _ h => h) (Or.inl ⟨by rfl, ?_⟩) (by assumption) ?_
            rotate_left
            · intro w hSw
              (try dsimp only at hSw)
              go_simp
              all_goals with_reducible rfl
            try simp only [Act.put, List.getElem_toArray, List.getElem_cons_succ, List.getElem_cons_zero, List.setIfInBounds_toArray, List.set_cons_zero, List.set_cons_succ]
            refine wpAnyH_ready (rs := [13]) (by kernel_rfl) (by simp) ?_
            refine AllReadyH.cons rfl (fun K hK => ?_) AllReadyH.nil
            rw [if_pos (by rfl)]
            refine wp_store_mid 30 (.tmp 12) (.tmp 48) (by rfl) wc.heap.size 0 (evC (ofKind 0) u72a u72b u72c n72a n72b n72c) (by rfl) (by rfl) (there_of_block hz72 (Nat.le_refl 27)) (by kernel_rfl) (by kernel_rfl) ?_
            have HBf : Below wc.heap.size wc (x72.setCells wc.heap.size 0 (evC (ofKind 0) u72a u72b u72c n72a n72b n72c).toList) := below_setCells' _ (Nat.le_refl _) _ _ HBx72
            refine hK.out _ _ ?_ (fun hHeld => ?_)
            · exact HSx.out _ HBf
            clear hK K
            try simp only [Act.put, List.getElem_toArray, List.getElem_cons_succ, List.getElem_cons_zero, List.setIfInBounds_toArray, List.set_cons_zero, List.set_cons_succ]
            refine wpAnyH_take (i := 14) (v := ?_) rfl (by kernel_rfl) (by kernel_rfl) (by kernel_rfl) (fun _ _ _ h => h) (Or.inl ⟨by rfl, ?_⟩) (by assumption) ?_
            rotate_left
            · intro w hSw
              (try dsimp only at hSw)
              go_simp
              all_goals with_reducible rfl
            try simp only [Act.put, List.getElem_toArray, List.getElem_cons_succ, List.getElem_cons_zero, List.setIfInBounds_toArray, List.set_cons_zero, List.set_cons_succ]
            refine wpAnyH_done (by kernel_rfl) ?_ _
            go_wp2_with fail
            go_meet
            case rel => exact ⟨wc.heap.size, u72a, u72b, u72c, n72a, n72b, n72c, rfl, rfl, ⟨store27 hz72 rfl, ⟨hm72.bands.keep (but_setCells _ _ _ _) (fun h => absurd h (by decide)), hm72.slots.keep (but_setCells _ _ _ _) (fun h => absurd h (by decide)), hm72.body.same_ (but_setCells _ _ _ _).size (fun h => absurd h (by decide)), hm72.v64⟩⟩, HBf⟩
        · rw [if_pos (by rfl)]
          go_simp
          obtain ⟨x73, e73⟩ : ∃ x, x = x63.alloc (.cells #[.int .u8 m] 5) := ⟨_, rfl⟩
          rw [← e73]
          have HBx73 : Below wc.heap.size wc x73 := by rw [e73]; exact HBx63.alloc HBx63.size _
          have hn73 : x73.heap[x63.heap.size]? = some (.cells #[.int .u8 m] 5 (0, 0)) := by rw [e73]; exact heap_alloc_new _ _
          have hz73 : x73.heap[wc.heap.size]? = some (.cells #[.int .i64 0, .int .i64 0, .int .i64 0, .int .i64 0, .int .i64 0, .int .i64 0, .int .i64 0, .int .i64 0, .slice none 0 0, .int .i64 0, .int .i64 0, .int .i64 0, .int .i64 0, .slice none 0 0, .int .i64 0, .int .i64 0, .int .i64 0, .int .i64 0, .int .i64 0, .int .i64 0, .int .i64 0, .int .i64 0, .int .i64 0, .int .i64 0, .int .i64 0, .int .i64 0, .slice none 0 0] 30 (0, 0)) := by rw [e73]; exact (heap_alloc_old _ _ (lt_of_heap hn63)).trans hn63
          clear e73
          refine hK.out _ _ ?_ (fun hHeld => ?_)
          · exact HSx.out _ HBx73
          clear hK K
          try simp only [Act.put, List.getElem_toArray, List.getElem_cons_succ, List.getElem_cons_zero, List.setIfInBounds_toArray, List.set_cons_zero, List.set_cons_succ]
          refine wpAnyH_ready (rs := [2]) (by kernel_rfl) (by simp) ?_
          refine AllReadyH.cons rfl (fun K hK => ?_) AllReadyH.nil
          rw [if_pos (by rfl)]
          go_simp
          obtain ⟨x74, e74⟩ : ∃ x, x = x73.alloc (.cells #[] 5) := ⟨_, rfl⟩
          rw [← e74]
          have HBx74 : Below wc.heap.size wc x74 := by rw [e74]; exact HBx73.alloc HBx73.size _
          have hn74 : x74.heap[x73.heap.size]? = some (.cells #[] 5 (0, 0)) := by rw [e74]; exact heap_alloc_new _ _
          have hl74 : x74.heap[x63.heap.size]? = some (.cells #[.int .u8 m] 5 (0, 0)) := by rw [e74]; exact (heap_alloc_old _ _ (lt_of_heap hn73)).trans hn73
          have hz74 : x74.heap[wc.heap.size]? = some (.cells #[.int .i64 0, .int .i64 0, .int .i64 0, .int .i64 0, .int .i64 0, .int .i64 0, .int .i64 0, .int .i64 0, .slice none 0 0, .int .i64 0, .int .i64 0, .int .i64 0, .int .i64 0, .slice none 0 0, .int .i64 0, .int .i64 0, .int .i64 0, .int .i64 0, .int .i64 0, .int .i64 0, .int .i64 0, .int .i64 0, .int .i64 0, .int .i64 0, .int .i64 0, .int .i64 0, .slice none 0 0] 30 (0, 0)) := by rw [e74]; exact (heap_alloc_old _ _ (lt_of_heap hz73)).trans hz73
          have hq74 : OwnB x74 wc.heap.size 5 (.slice (some ⟨x73.heap.size, 0, none⟩) 0 0) [] := by rw [e74]; exact OwnB.lit _ [] HBx73.size (by decide)
          have nehl : (Value.slice (some ⟨x73.heap.size, 0, none⟩) 0 0).ownBlock ≠ some x63.heap.size := fun e => by injection e with e; have := lt_of_heap hn73; simp only at e; omega
          have nehz : (Value.slice (some ⟨x73.heap.size, 0, none⟩) 0 0).ownBlock ≠ some wc.heap.size := fun e => by injection e with e; have := lt_of_heap hz73; simp only at e; omega
          clear e74
          refine hK.out _ _ ?_ (fun hHeld => ?_)
          · exact HSx.out _ HBx74
          clear hK K
          try simp only [Act.put, List.getElem_toArray, List.getElem_cons_succ, List.getElem_cons_zero, List.setIfInBounds_toArray, List.set_cons_zero, List.set_cons_succ]
          refine wpAnyH_ready (rs := [4]) (by kernel_rfl) (by simp) ?_
          refine AllReadyH.cons rfl (fun K hK => ?_) AllReadyH.nil
          rw [if_pos (by rfl)]
          refine wp_append_sl (.tmp 41) (.tmp 42) 28 rfl wc.heap.size _ Try.underlying28 info_u8 (.slice (some ⟨x73.heap.size, 0, none⟩) 0 0) [] (by rfl) hq74 _ pa (putR e).length pc (putR e) (by rfl) ((S4.out.below HBx74 (Nat.le_refl _)).more HBx74.size) (by have := HPL.out; simp; omega) HBx74.size ?_
          intro v75 x75 ho75 hg75 hw75
          have HBx75 : Below wc.heap.size wc x75 := HBx74.grown hg75 HBx74.size (fun k hk => (hq74.at_base hk).1)
          have hl75 := (hg75.block _ (lt_of_heap hl74) (fun e => nehl e.symm)).trans hl74
          have nf75 : v75.ownBlock ≠ some x63.heap.size := fun e => by rcases hw75 with h1 | h1; exact nehl (h1.symm.trans e); have h2 := lt_of_heap hl74; rw [h1] at e; injection e with e; omega
          clear nehl
          have nehl := nf75
          clear nf75
          have hz75 := (hg75.block _ (lt_of_heap hz74) (fun e => nehz e.symm)).trans hz74
          have nf75 : v75.ownBlock ≠ some wc.heap.size := fun e => by rcases hw75 with h1 | h1; exact nehz (h1.symm.trans e); have h2 := lt_of_heap hz74; rw [h1] at e; injection e with e; omega
          clear nehz
          have nehz := nf75
          clear nf75
          refine hK.out _ _ ?_ (fun hHeld => ?_)
          · exact HSx.out _ HBx75
          clear hK K
          try simp only [Act.put, List.getElem_toArray, List.getElem_cons_succ, List.getElem_cons_zero, List.setIfInBounds_toArray, List.set_cons_zero, List.set_cons_succ]
          refine wpAnyH_ready (rs := [7]) (by kernel_rfl) (by simp) ?_
          refine AllReadyH.cons rfl (fun K hK => ?_) AllReadyH.nil
          rw [if_pos (by rfl)]
          refine wp_append_sl (.tmp 43) (.tmp 45) 28 rfl wc.heap.size _ Try.underlying28 info_u8 v75 ([] ++ putR e) (by rfl) ho75 _ (some ⟨x63.heap.size, 0, none⟩) 1 1 [m.toNat] (by rfl) (sl_one hl75 HM8.out) (by have := HPL.out; simp; omega) HBx75.size ?_
          intro v76 x76 ho76 hg76 hw76
          have HBx76 : Below wc.heap.size wc x76 := HBx75.grown hg76 HBx75.size (fun k hk => (ho75.at_base hk).1)
          have hz76 := (hg76.block _ (lt_of_heap hz75) (fun e => nehz e.symm)).trans hz75
          have nf76 : v76.ownBlock ≠ some wc.heap.size := fun e => by rcases hw76 with h1 | h1; exact nehz (h1.symm.trans e); have h2 := lt_of_heap hz75; rw [h1] at e; injection e with e; omega
          clear nehz
          have nehz := nf76
          clear nf76
          refine hK.out _ _ ?_ (fun hHeld => ?_)
          · exact HSx.out _ HBx76
          clear hK K
          try simp only [Act.put, List.getElem_toArray, List.getElem_cons_succ, List.getElem_cons_zero, List.setIfInBounds_toArray, List.set_cons_zero, List.set_cons_succ]
          refine wpAnyH_ready (rs := [8]) (by kernel_rfl) (by simp) ?_
          refine AllReadyH.cons rfl (fun K hK => ?_) AllReadyH.nil
          rw [if_pos (by rfl)]
          obtain ⟨ga77, gc77, hv77, hs77⟩ := ho76.sl HBM.out
          have hl77 : ([] ++ putR e ++ [m.toNat]).length ≤ 1000000 := by have := HPL.out; simp; omega
          have hG77 := HG2.out
          generalize [] ++ putR e ++ [m.toNat] = BS at hv77 hs77 hl77 hG77
          subst hv77
          go_simp
          go_at_call 7
          refine (get_to hG77 HK64.out hs77 hl77).mono ?_
          rintro r x77 ⟨u77a, u77b, u77c, n77a, n77b, n77c, rfl, hm77, hy77⟩
          have HBx77 : Below wc.heap.size wc x77 := HBx76.trans (hy77.mono HBx76.size)
          have hz77 := (hy77.block _ (lt_of_heap hz76)).trans hz76
          refine hK.out _ _ ?_ (fun hHeld => ?_)
          · exact HSx.out _ HBx77
          clear hK K
          try simp only [Act.put, List.getElem_toArray, List.getElem_cons_succ, List.getElem_cons_zero, List.setIfInBounds_toArray, List.set_cons_zero, List.set_cons_succ]
          refine wpAnyH_take (i := 9) (v := ?_) rfl (by kernel_rfl) (by kernel_rfl) (by kernel_rfl) (fun _ _ _ h => h) (Or.inl ⟨by rfl, ?_⟩) (by assumption) ?_
          rotate_left
          · intro w hSw
            (try dsimp only at hSw)
            go_simp
            all_goals with_reducible rfl
          try simp only [Act.put, List.getElem_toArray, List.getElem_cons_succ, List.getElem_cons_zero, List.setIfInBounds_toArray, List.set_cons_zero, List.set_cons_succ]
          refine wpAnyH_take (i := 10) (v := ?_) rfl (by kernel_rfl) (by kernel_rfl) (by kernel_rfl) (fun _ _ _ h => h) (Or.inl ⟨by rfl, ?_⟩) (by assumption) ?_
          rotate_left
          · intro w hSw
            (try dsimp only at hSw)
            go_simp
            all_goals with_reducible rfl
          try simp only [Act.put, List.getElem_toArray, List.getElem_cons_succ, List.getElem_cons_zero, List.setIfInBounds_toArray, List.set_cons_zero, List.set_cons_succ]
          refine wpAnyH_take (i := 11) (v := ?_) rfl (by kernel_rfl) (by kernel_rfl) (by kernel_rfl) (fun _ _ _ h => h) (Or.inl ⟨by rfl, ?_⟩) (by assumption) ?_
          rotate_left
          · intro w hSw
            (try dsimp only at hSw)
            go_simp
            all_goals with_reducible rfl
          try simp only [Act.put, List.getElem_toArray, List.getElem_cons_succ, List.getElem_cons_zero, List.setIfInBounds_toArray, List.set_cons_zero, List.set_cons_succ]
          refine wpAnyH_ready (rs := [13]) (by kernel_rfl) (by simp) ?_
          refine AllReadyH.cons rfl (fun K hK => ?_) AllReadyH.nil
          rw [if_pos (by rfl)]
          refine wp_store_mid 30 (.tmp 12) (.tmp 48) (by rfl) wc.heap.size 0 (evC (ofKind 0) u77a u77b u77c n77a n77b n77c) (by rfl) (by rfl) (there_of_block hz77 (Nat.le_refl 27)) (by kernel_rfl) (by kernel_rfl) ?_
          have HBf : Below wc.heap.size wc (x77.setCells wc.heap.size 0 (evC (ofKind 0) u77a u77b u77c n77a n77b n77c).toList) := below_setCells' _ (Nat.le_refl _) _ _ HBx77
          refine hK.out _ _ ?_ (fun hHeld => ?_)
          · exact HSx.out _ HBf
          clear hK K
          try simp only [Act.put, List.getElem_toArray, List.getElem_cons_succ, List.getElem_cons_zero, List.setIfInBounds_toArray, List.set_cons_zero, List.set_cons_succ]
          refine wpAnyH_take (i := 14) (v := ?_) rfl (by kernel_rfl) (by kernel_rfl) (by kernel_rfl) (fun _ _ _ h => h) (Or.inl ⟨by rfl, ?_⟩) (by assumption) ?_
          rotate_left
          · intro w hSw
            (try dsimp only at hSw)
            go_simp
            all_goals with_reducible rfl
          try simp only [Act.put, List.getElem_toArray, List.getElem_cons_succ, List.getElem_cons_zero, List.setIfInBounds_toArray, List.set_cons_zero, List.set_cons_succ]
          refine wpAnyH_done (by kernel_rfl) ?_ _
          go_wp2_with fail
          go_meet
          case rel => exact ⟨wc.heap.size, u77a, u77b, u77c, n77a, n77b, n77c, rfl, rfl, ⟨store27 hz77 rfl, ⟨hm77.bands.keep (but_setCells _ _ _ _) (fun h => absurd h (by decide)), hm77.slots.keep (but_setCells _ _ _ _) (fun h => absurd h (by decide)), hm77.body.same_ (but_setCells _ _ _ _).size (fun h => absurd h (by decide)), hm77.v64⟩⟩, HBf⟩
    case rest =>
      obtain ⟨g9, z1, z2, z3, n1, n2, n3, rfl, rfl, he9, hb9⟩ := hcut
      have X9 := Lib.hid he9
      have X8 := Lib.hid (X8.out.on hb9)
      have B9 := Lib.hid (bel2 B4.out hb9)
      clear he9 hb9
      go_wp2_with (first | (refine wpList_load_rowG ?_ 30 (.tmp 10) (by rfl) g8 (by rfl) 30 (evC (ofKind 0) x1 x2 x3 y1 y2 y3) (0, 0) _ X8.out.cells Try.underlying30 (by rfl) (by kernel_rfl) ?_; focus (first | rfl | (simp [Region.wanted, yielded]; done) | (simp [Region.wanted, yielded, *]; done))))
      refine (same_to (evSame_iff.2 rfl) X8.out.mem (evm_lit (ofKind64 i64_0) rfl rfl rfl)).mono ?_
      rintro r wd ⟨rfl, hbd⟩
      have X9 := Lib.hid (X9.out.on hbd)
      have BD := Lib.hid (bel2 B9.out hbd)
      clear hbd
      go_wp2_with (first | (refine wpList_load_rowG ?_ 30 (.tmp 12) (by rfl) g9 (by rfl) 30 (evC (ofKind 0) z1 z2 z3 n1 n2 n3) (0, 0) _ X9.out.cells Try.underlying30 (by rfl) (by kernel_rfl) ?_; focus (first | rfl | (simp [Region.wanted, yielded]; done) | (simp [Region.wanted, yielded, *]; done))))
      refine (same_to (evSame_iff.2 rfl) X9.out.mem (evm_lit (ofKind64 i64_0) rfl rfl rfl)).mono ?_
      rintro r we ⟨rfl, hbe⟩
      have BE := Lib.hid (bel2 BD.out hbe)
      clear hbe
      go_wp2
      go_ret
      exact ⟨rfl, BE.out⟩
end Go.Proofs.Ytnpakjdgcmbcnaa
