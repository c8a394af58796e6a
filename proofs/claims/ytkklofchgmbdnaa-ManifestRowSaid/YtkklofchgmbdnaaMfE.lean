/- Contracts of the program's manifest: the calls that Swap does in turn. -/
import Derived.Test.YtkklofchgmbdnaaMfD
namespace Go.Proofs.Ytkklofchgmbdnaa
open Go.RowKit Go.Sort
open Crc Frm
attribute [local go_sem] Oper.semAt_some

set_option maxRecDepth 100000 in
set_option maxHeartbeats 1600000 in
theorem sw2_any {w0 w : World} {dp bd : Nat} {t : St} {O : Nat → Prop} (h : DK w0 w dp t O) (hd : w.cell? ⟨bd, 0, none⟩ = some (.pointer (some ⟨dp, 0, none⟩))) :
    Calls Try.prog 60 #[.pointer (some ⟨bd, 0, none⟩)] w fun e w' => e = .returned (.int .i64 (delNext t).1) ∧ Mv w0 w dp O (delNext t).2 w' := by
  have DL := Lib.hid (delnext_any h)
  clear h
  generalize delNext t = r at *
  go_enter Try.func60, Try.ntmps60
  go_wp2_with fail
  refine DL.out.mono ?_
  rintro e w1 ⟨rfl, hmv⟩
  have HM := Lib.hid hmv
  clear hmv DL
  go_wp2
  go_ret
  exact ⟨rfl, HM.out⟩
set_option maxRecDepth 100000 in
set_option maxHeartbeats 1600000 in
theorem sw4_any {w0 w : World} {dp bd : Nat} {t : St} {O : Nat → Prop} (h : DK w0 w dp t O) (hd : w.cell? ⟨bd, 0, none⟩ = some (.pointer (some ⟨dp, 0, none⟩))) :
    Calls Try.prog 63 #[.pointer (some ⟨bd, 0, none⟩)] w fun e w' => e = .returned (.int .i64 (t.sync nxL).1) ∧ Mv w0 w dp O (t.sync nxL).2 w' := by
  have DL := h.sync nxS (by decide)
  change Calls _ _ _ _ (fun e w' => e = .returned (.int .i64 (t.sync nxL).1) ∧ Mv w0 w dp O (t.sync nxL).2 w') at DL
  unfold nxS at DL
  have DL := Lib.hid DL
  clear h
  generalize t.sync nxL = r at *
  go_enter Try.func63, Try.ntmps63
  go_wp2_with fail
  refine DL.out.mono ?_
  rintro e w1 ⟨rfl, hmv⟩
  have HM := Lib.hid hmv
  clear hmv DL
  go_wp2
  go_ret
  exact ⟨rfl, HM.out⟩
set_option maxRecDepth 100000 in
set_option maxHeartbeats 1600000 in
theorem sw5_any {w0 w : World} {dp bd : Nat} {t : St} {O : Nat → Prop} (h : DK w0 w dp t O) (hd : w.cell? ⟨bd, 0, none⟩ = some (.pointer (some ⟨dp, 0, none⟩))) :
    Calls Try.prog 64 #[.pointer (some ⟨bd, 0, none⟩)] w fun e w' => e = .returned (.int .i64 (t.rename nxL mfL).1) ∧ Mv w0 w dp O (t.rename nxL mfL).2 w' := by
  have DL := h.rename nxS mfS (by decide) (by decide)
  change Calls _ _ _ _ (fun e w' => e = .returned (.int .i64 (t.rename nxL mfL).1) ∧ Mv w0 w dp O (t.rename nxL mfL).2 w') at DL
  unfold nxS mfS at DL
  have DL := Lib.hid DL
  clear h
  generalize t.rename nxL mfL = r at *
  go_enter Try.func64, Try.ntmps64
  go_wp2_with fail
  refine DL.out.mono ?_
  rintro e w1 ⟨rfl, hmv⟩
  have HM := Lib.hid hmv
  clear hmv DL
  go_wp2
  go_ret
  exact ⟨rfl, HM.out⟩
theorem mPut_len (l : List Int) : (mPut l).length ≤ 2000 := by
  unfold mPut
  split
  · next h =>
    have h1 := (mOk_all h).2.1
    have h2 := mNums_len l
    simp only [mRaw, mSum, List.length_append, List.length_cons, be_len]
    omega
  · simp
theorem mPut_byte (l : List Int) : ∀ c ∈ mPut l, c < 256 := by
  intro c hc
  unfold mPut at hc
  split at hc
  · next h =>
    rcases List.mem_append.1 hc with h1 | h1
    · rcases List.mem_cons.1 h1 with rfl | h2
      · have := (mOk_all h).2.1; omega
      · exact mNums_byte l c h2
    · exact be_byte _ _ c h1
  · cases hc
set_option linter.unusedSimpArgs false in
set_option maxRecDepth 100000 in
set_option maxHeartbeats 3200000 in
theorem sw3_any {w0 w : World} {dp bd bl : Nat} {t : St} {O : Nat → Prop} (h : DK w0 w dp t O) (hd : w.cell? ⟨bd, 0, none⟩ = some (.pointer (some ⟨dp, 0, none⟩))) (l : List Int) (a : Option Addr) (n c : Nat)
    (hl : w.cell? ⟨bl, 0, none⟩ = some (.slice a n c)) (hr : Row w w.heap.size a n c 1 (intsC l)) (hn : l.length = n) (hdO : ¬ O bd) (hlO : ¬ O bl) :
    Calls Try.prog 62 #[.pointer (some ⟨bd, 0, none⟩), .pointer (some ⟨bl, 0, none⟩)] w fun e w' => e = .returned (.int .i64 (t.write nxL (mPut l)).1) ∧ Mv w0 w dp O (t.write nxL (mPut l)).2 w' := by
  have PT := Lib.hid (mput_any l a n c w.drew (row_drew hr) hn)
  have hpl := mPut_len l
  have hpb := Lib.hid (mPut_byte l)
  have HK := Lib.hid (And.intro h (And.intro hdO hlO))
  have hbd := block_lt_of_cell hd
  have hbl := block_lt_of_cell hl
  clear h hdO hlO hr
  obtain ⟨r, hr9⟩ : ∃ r, r = t.write nxL (mPut l) := ⟨_, rfl⟩
  rw [← hr9]
  have HR9 := Lib.hid hr9
  clear hr9
  go_enter Try.func62, Try.ntmps62
  go_wp2_with fail
  refine wp_region_held_drew (S := fun x => x.cell? ⟨bd, 0, none⟩ = some (.pointer (some ⟨dp, 0, none⟩)) ∧ x.cell? ⟨bl, 0, none⟩ = some (.slice a n c)) (by kernel_rfl) ⟨hd, hl⟩ (fun hHeld => ?_)
  refine wpAnyH_take (i := 0) (v := ?_) rfl (by kernel_rfl) (by kernel_rfl) (by kernel_rfl) (fun _ _ _ h => h) (Or.inl ⟨by rfl, ?_⟩) (by assumption) ?_
  rotate_left
  · intro w hSw
    (try dsimp only at hSw)
    go_simp
    all_goals with_reducible rfl
  try simp only [Act.put, List.getElem_toArray, List.getElem_cons_succ, List.getElem_cons_zero, List.setIfInBounds_toArray, List.set_cons_zero, List.set_cons_succ]
  refine wpAnyH_take (i := 1) (v := ?_) rfl (by kernel_rfl) (by kernel_rfl) (by kernel_rfl) (fun _ _ _ h => h) (Or.inl ⟨by rfl, ?_⟩) (by assumption) ?_
  rotate_left
  · intro w hSw
    (try dsimp only at hSw)
    go_simp
    all_goals with_reducible rfl
  try simp only [Act.put, List.getElem_toArray, List.getElem_cons_succ, List.getElem_cons_zero, List.setIfInBounds_toArray, List.set_cons_zero, List.set_cons_succ]
  refine wpAnyH_ready (rs := [2]) (by kernel_rfl) (by simp) ?_
  refine AllReadyH.cons rfl (fun K hK => ?_) AllReadyH.nil
  rw [if_pos (by rfl)]
  go_simp
  go_at_call 29
  refine PT.out.mono ?_
  rintro e w1 ⟨v, rfl, hv, hb1⟩
  have hb1' : Below w.heap.size w w1 := below_drew_of hb1
  have k1 := (hb1'.cell (p := ⟨bd, 0, none⟩) hbd).trans hd
  have k2 := (hb1'.cell (p := ⟨bl, 0, none⟩) hbl).trans hl
  obtain ⟨va, vc, rfl, hvs, hvb⟩ := hv.sl_base hpb.out
  have WR := (HK.out.1.on hb1').write nxS (by decide) va _ vc _ hvs (by omega) (fun _ k o e ho => by have h1 := hvb k o e; have h2 := HK.out.1.lt k ho; have h3 : w.drew.heap.size = w.heap.size := rfl; omega)
  change Calls _ _ _ _ (fun e w' => e = .returned (.int .i64 (t.write nxL (mPut l)).1) ∧ Mv w0 w1 dp O (t.write nxL (mPut l)).2 w') at WR
  unfold nxS at WR
  rw [← HR9.out] at WR
  have WR := Lib.hid WR
  have HB := Lib.hid hb1'
  clear hv hb1 hvs hvb hb1' PT
  generalize (mPut l).length = pn at *
  refine hK.out _ _ ?_ (fun hHeld => ?_)
  · exact ⟨k1, k2⟩
  clear hK K
  try simp only [Act.put, List.getElem_toArray, List.getElem_cons_succ, List.getElem_cons_zero, List.setIfInBounds_toArray, List.set_cons_zero, List.set_cons_succ]
  refine wpAnyH_ready (rs := [3]) (by kernel_rfl) (by simp) ?_
  refine AllReadyH.cons rfl (fun K hK => ?_) AllReadyH.nil
  rw [if_pos (by rfl)]
  go_simp
  go_at_call 37
  refine WR.out.mono ?_
  rintro e w2 ⟨rfl, hmv⟩
  have j1 := (hmv.far.choose_spec.2.1.cell (b := bd) (o := 0) (Nat.lt_of_lt_of_le hbd HB.out.size) HK.out.2.1).trans k1
  have j2 := (hmv.far.choose_spec.2.1.cell (b := bl) (o := 0) (Nat.lt_of_lt_of_le hbl HB.out.size) HK.out.2.2).trans k2
  have HM := Lib.hid (Mv.behind HB.out hmv)
  clear hmv WR
  refine hK.out _ _ ?_ (fun hHeld => ?_)
  · exact ⟨j1, j2⟩
  clear hK K
  try simp only [Act.put, List.getElem_toArray, List.getElem_cons_succ, List.getElem_cons_zero, List.setIfInBounds_toArray, List.set_cons_zero, List.set_cons_succ]
  refine wpAnyH_take (i := 4) (v := ?_) rfl (by kernel_rfl) (by kernel_rfl) (by kernel_rfl) (fun _ _ _ h => h) (Or.inl ⟨by rfl, ?_⟩) (by assumption) ?_
  rotate_left
  · intro w hSw
    (try dsimp only at hSw)
    go_simp
    all_goals with_reducible rfl
  try simp only [Act.put, List.getElem_toArray, List.getElem_cons_succ, List.getElem_cons_zero, List.setIfInBounds_toArray, List.set_cons_zero, List.set_cons_succ]
  refine wpAnyH_done (by kernel_rfl) ?_ _
  clear hHeld
  go_wp2
  go_ret
  exact ⟨rfl, HM.out⟩
end Go.Proofs.Ytkklofchgmbdnaa
