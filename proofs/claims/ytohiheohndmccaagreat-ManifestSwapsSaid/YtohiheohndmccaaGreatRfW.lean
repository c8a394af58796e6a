/- The reference's manifest: Swap, Load. -/
import Derived.Test.YtohiheohndmccaaGreatMfV
import Derived.Test.YtohiheohndmccaaGreatMfH
import Derived.Test.YtohiheohndmccaaGreatRdV
namespace Go.Proofs.YtohiheohndmccaaGreat
open Go.RowKit Go.Sort
open Go.Maps
attribute [local go_sem] Oper.semAt_some

theorem del_only (t : St) (s : List UInt8) (h : (fat t.D s).isSome = true) : (t.delete s).1 = 0 ∨ (t.delete s).1 = 42 := by
  unfold St.delete
  split
  · exact .inr rfl
  · obtain ⟨f, hf⟩ := Option.isSome_iff_exists.1 h
    rw [hf]
    exact .inl rfl
theorem ren_only (t : St) (hm : IsMap t.D) (s u : List UInt8) (hu : nmOk u = true) (h : (t.sync s).1 = 0) : ((t.sync s).2.rename s u).1 = 0 ∨ ((t.sync s).2.rename s u).1 = 42 := by
  have hs : (fat (t.sync s).2.D s).isSome = true := by
    unfold St.sync at h ⊢
    split
    · rename_i h0; rw [if_pos h0] at h; simp at h
    · rename_i h0
      rw [if_neg h0] at h
      cases hf : fat t.D s with
      | none => rw [hf] at h; simp at h
      | some f =>
        rw [hf] at h
        simp only at h ⊢
        split
        · rename_i h1; rw [if_pos h1] at h; simp at h
        · show (fat (t.D.put (.string s) (.held ⟨f.bs, f.bs.length⟩)) s).isSome = true
          rw [fat_put_same hm]
          rfl
  unfold St.rename
  split
  · exact .inr rfl
  split
  · rename_i h1; rw [hu] at h1; simp at h1
  · obtain ⟨f, hf⟩ := Option.isSome_iff_exists.1 hs
    rw [hf]
    exact .inl rfl
theorem mfL_ok : nmOk mfL = true := by decide
theorem mSwap_no (t : St) (l : List Int) (hok : mOk l = true) (h : (fat t.D nxL).isSome = true) (h0 : (t.delete nxL).1 ≠ 0) : mSwap t l = t.delete nxL := by
  have hd : delNext t = t.delete nxL := by unfold delNext; rw [if_pos h]
  have h42 : (t.delete nxL).1 = 42 := (del_only t nxL h).resolve_left h0
  unfold mSwap
  rw [if_pos hok]
  unfold mTurn
  simp only [mAns, mSt, hd]
  rw [if_pos h0]
  unfold mClean
  simp only [h42]
  rw [if_neg (by simp)]
  exact Prod.ext h42.symm rfl
theorem mSwap_of (t t1 : St) (l : List Int) (hm : IsMap (t1.write nxL (mPut l)).2.D) (hok : mOk l = true) (hd : delNext t = (0, t1)) : mSwap t l =
    if (t1.write nxL (mPut l)).1 ≠ 0 then ((t1.write nxL (mPut l)).1, mClean (t1.write nxL (mPut l)).1 (t1.write nxL (mPut l)).2)
    else if ((t1.write nxL (mPut l)).2.sync nxL).1 ≠ 0 then (((t1.write nxL (mPut l)).2.sync nxL).1, mClean ((t1.write nxL (mPut l)).2.sync nxL).1 ((t1.write nxL (mPut l)).2.sync nxL).2)
    else ((t1.write nxL (mPut l)).2.sync nxL).2.rename nxL mfL := by
  unfold mSwap
  rw [if_pos hok]
  unfold mTurn
  simp only [mAns, mSt, hd]
  rw [if_neg (by simp)]
  by_cases h1 : (t1.write nxL (mPut l)).1 ≠ 0
  · rw [if_pos h1, if_pos h1]
  · rw [if_neg h1, if_neg h1]
    by_cases h2 : ((t1.write nxL (mPut l)).2.sync nxL).1 ≠ 0
    · rw [if_pos h2, if_pos h2]
    · rw [if_neg h2, if_neg h2]
      have := ren_only (t1.write nxL (mPut l)).2 hm nxL mfL mfL_ok (by omega)
      refine Prod.ext rfl ?_
      show mClean _ _ = _
      unfold mClean
      rw [if_neg (by omega)]
theorem rload_any {w0 w : World} {rp : Nat} {t : St} {O : Nat → Prop} (h : RK w0 w rp t O) :
    Calls Tryz.prog 13 #[.pointer (some ⟨rp, 0, none⟩)] w fun e w' => ∃ v, e = .returned (.tuple #[v, .int .i64 (((mLoad t).2 : Nat) : Int)]) ∧ OwnV w' w.heap.size 2 v (i64V (mLoad t).1) ∧ Below w.heap.size w w' := by
  have RD := h.read mfS
  change Calls _ _ _ _ (NewBytes w ((fat t.D mfL).getD Fl.zero).bs (fat t.D mfL).isSome) at RD
  unfold mfS at RD
  have RD := Lib.hid RD
  have hby := fat_byte h.good mfL
  have hG := h.good
  clear h
  cases hf : fat t.D mfL with
  | none =>
    have hm : Hid (mLoad t = ([], 3)) := by show _ = _; unfold mLoad; rw [hf]
    rw [hf] at RD
    clear hby hG
    go_enter Tryz.func13, Tryz.ntmps13
    go_wp2_with fail
    refine RD.out.mono ?_
    rintro e w1 ⟨a, c, rfl, _, hB⟩
    have HB := Lib.hid hB
    clear hB
    go_wp2
    go_ret2
    rw [hm.out]
    exact ⟨_, rfl, OwnV.nil_ _ _ _, HB.out⟩
  | some f =>
    have hm : Hid (mLoad t = mGet f.bs) := by show _ = _; unfold mLoad; rw [hf]
    rw [hf] at RD hby
    have hlen : f.bs.length ≤ 2000000 := by have h1 := (hG.at_ hf).2.2.2; have h2 := hG.tot_; have h3 := hG.room_; omega
    change Hid (Calls _ _ _ _ (NewBytes w f.bs true)) at RD
    change ∀ c ∈ f.bs, c < 256 at hby
    clear hG
    go_enter Tryz.func13, Tryz.ntmps13
    go_wp2_with fail
    refine RD.out.mono ?_
    rintro e w1 ⟨a, c, rfl, ho, hB⟩
    obtain ⟨a', c', e1, hs, _⟩ := ho.sl_base hby
    injection e1 with e2 e3 e4
    subst e2 e4
    have GT := Lib.hid (rget5_any a f.bs.length c f.bs w1 hs hlen)
    have HB := Lib.hid hB
    clear hB ho hs RD
    go_wp2_with fail
    refine GT.out.mono ?_
    rintro e w2 ⟨v, rfl, hv, hb2⟩
    have HF := Lib.hid (And.intro (OwnV.mono hv HB.out.size) (HB.out.trans (hb2.mono HB.out.size)))
    clear hv hb2 GT
    go_wp2
    go_ret2
    rw [hm.out]
    exact ⟨v, rfl, HF.out⟩
end Go.Proofs.YtohiheohndmccaaGreat
