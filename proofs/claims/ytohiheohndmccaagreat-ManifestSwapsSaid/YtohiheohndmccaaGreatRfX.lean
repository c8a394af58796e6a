/- The reference's manifest: Swap. -/
import Derived.Test.YtohiheohndmccaaGreatRfW
namespace Go.Proofs.YtohiheohndmccaaGreat
open Go.RowKit Go.Sort
open Go.Maps
attribute [local go_sem] Oper.semAt_some

theorem Mr.then_ {w0 w w1 w' : World} {rp : Nat} {O O1 : Nat → Prop} {t : St} (hb : But O w w1) (hO : ∀ k, O1 k → O k ∨ w.heap.size ≤ k) (h : Mr w0 w1 rp O1 t w') : Mr w0 w rp O t w' := by
  obtain ⟨O', h1, h2, h3⟩ := h
  exact ⟨O', h1, hb.trans h2 hO, fun k hk => by rcases h3 k hk with h4 | h4; exact hO k h4; exact .inr (Nat.le_trans hb.size h4)⟩
set_option linter.unusedSimpArgs false in
set_option maxRecDepth 100000 in
set_option maxHeartbeats 6400000 in
theorem rswap5_any {w0 w : World} {rp : Nat} {t : St} {O : Nat → Prop} (h : RK w0 w rp t O) (l : List Int) (a : Option Addr) (n c : Nat) (hr : Row w w.heap.size a n c 1 (intsC l)) (hn : l.length = n)
    (hfar : 0 < n → ∀ k o, a = some ⟨k, o, none⟩ → ¬ O k) :
    Calls Tryz.prog 11 #[.pointer (some ⟨rp, 0, none⟩), .slice a n c] w fun e w' => e = .returned (.int .i64 (mSwap t l).1) ∧ Mr w0 w rp O (mSwap t l).2 w' := by
  have R := Lib.hid (rright5_any l a n c w hr hn)
  have HRW : Hid (∀ (x : World) {O1 : Nat → Prop}, But O w x → (∀ k, O1 k → O k ∨ w.heap.size ≤ k) → Row x x.heap.size a n c 1 (intsC l)) := fun x _ hx _ => Row.but hr hx hfar
  have HK := Lib.hid h
  clear h hr hfar
  by_cases hok : mOk l = true
  · rw [hok] at R
    go_enter Tryz.func11, Tryz.ntmps11
    go_wp2_with fail
    refine R.out.mono ?_
    rintro e w1 ⟨rfl, hb1⟩
    have HK1 := Lib.hid (HK.out.on hb1)
    have B1 := Lib.hid hb1
    have RD := HK1.out.read nxS
    change Calls _ _ _ _ (NewBytes w1 ((fat t.D nxL).getD Fl.zero).bs (fat t.D nxL).isSome) at RD
    unfold nxS at RD
    have RD := Lib.hid RD
    clear hb1 R
    go_wp2_with fail
    refine RD.out.mono ?_
    rintro e w2 ⟨xa, xc, rfl, _, hb2⟩
    have HK2 := Lib.hid (HK1.out.on hb2)
    have B2 := Lib.hid (B1.out.trans (hb2.mono B1.out.size))
    clear hb2 RD HK1
    by_cases his : (fat t.D nxL).isSome = true
    · rw [his]
      have DL := HK2.out.delete nxS
      change Calls _ _ _ _ (fun e w' => e = .returned (.int .i64 (t.delete nxL).1) ∧ Mr w0 w2 rp O (t.delete nxL).2 w') at DL
      unfold nxS at DL
      have DL := Lib.hid DL
      have hdn : delNext t = t.delete nxL := by unfold delNext; rw [if_pos his]
      have HN := Lib.hid (mSwap_no t l hok his)
      generalize t.delete nxL = r0 at *
      go_wp2_with fail
      refine DL.out.mono ?_
      rintro e w2b ⟨rfl, hmv⟩
      obtain ⟨O1, k1, b1, f1⟩ := hmv
      have K1 : Hid (RK w0 w2b rp r0.2 O1 ∧ But O w w2b ∧ ∀ k, O1 k → O k ∨ w.heap.size ≤ k) := ⟨k1, (But.of_below (O := O) B2.out).trans b1 (fun _ hi => .inl hi), fun k hk => by
        rcases f1 k hk with h1 | h1
        · exact .inl h1
        · exact .inr (Nat.le_trans B2.out.size h1)⟩
      clear k1 b1 f1 DL
      by_cases h0 : r0.1 = 0
      · obtain ⟨t1, ht1⟩ : ∃ t1, t1 = r0.2 := ⟨_, rfl⟩
        rw [← ht1] at K1
        have hd1 : delNext t = (0, t1) := hdn.trans (Prod.ext h0 ht1.symm)
        rw [h0]
        clear hdn HN ht1 h0
        obtain ⟨r1, hr1⟩ : ∃ r1, r1 = t1.write nxL (mPut l) := ⟨_, rfl⟩
        obtain ⟨r2, hr2⟩ : ∃ r2, r2 = r1.2.sync nxL := ⟨_, rfl⟩
        obtain ⟨r3, hr3⟩ : ∃ r3, r3 = r2.2.rename nxL mfL := ⟨_, rfl⟩
        have HR1 := Lib.hid hr1
        have HR2 := Lib.hid hr2
        have HR3 := Lib.hid hr3
        clear hr1 hr2 hr3
        have PU := Lib.hid (rput5_any l a n c _ (HRW.out _ K1.out.2.1 K1.out.2.2) hn)
        go_wp2_with fail
        refine PU.out.mono ?_
        rintro e w3 ⟨v, rfl, hov, hb3⟩
        obtain ⟨pa, pc, hv, hs3, hbb⟩ := hov.sl_base (mPut_byte l)
        subst hv
        have hpl := mPut_len l
        have WR := (K1.out.1.on hb3).write nxS (by decide) pa (mPut l).length pc (mPut l) hs3 (by omega) (fun hp k o e ho => by have := hbb k o e; have := K1.out.1.lt k ho; omega)
        change Calls _ _ _ _ (fun e w' => e = .returned (.int .i64 (t1.write nxL (mPut l)).1) ∧ Mr w0 w3 rp O1 (t1.write nxL (mPut l)).2 w') at WR
        rw [← HR1.out] at WR
        unfold nxS at WR
        have WR := Lib.hid WR
        have B3 := Lib.hid hb3
        clear PU hov hs3 hbb hb3
        go_wp2_with fail
        refine WR.out.mono ?_
        rintro e w4 ⟨rfl, hmv⟩
        obtain ⟨O4, k4, b4, f4⟩ := hmv
        have K4 : Hid (RK w0 w4 rp r1.2 O4 ∧ But O w w4 ∧ ∀ k, O4 k → O k ∨ w.heap.size ≤ k) := ⟨k4, K1.out.2.1.trans ((But.of_below (O := O1) B3.out).trans b4 (fun _ hi => .inl hi)) K1.out.2.2, fun k hk => by
          rcases f4 k hk with h1 | h1
          · exact K1.out.2.2 k h1
          · exact .inr (Nat.le_trans (Nat.le_trans K1.out.2.1.size B3.out.size) h1)⟩
        clear k4 b4 f4 WR
        have hmap : IsMap r1.2.D := canon_map K4.out.1.good.canon
        rw [HR1.out] at hmap
        have hsw := mSwap_of t t1 l hmap hok hd1
        rw [← HR1.out, ← HR2.out, ← HR3.out] at hsw
        have HSW := Lib.hid hsw
        clear hsw hmap
        by_cases h1 : r1.1 = 0
        · rw [h1]
          have SY := Lib.hid (K4.out.1.sync nxS)
          change Hid (Calls _ _ _ _ (fun e w' => e = .returned (.int .i64 (r1.2.sync nxL).1) ∧ Mr w0 w4 rp O4 (r1.2.sync nxL).2 w')) at SY
          rw [← HR2.out] at SY
          unfold nxS at SY
          go_wp2_with fail
          refine SY.out.mono ?_
          rintro e w5 ⟨rfl, hmv⟩
          obtain ⟨O5, k5, b5, f5⟩ := hmv
          have K5 : Hid (RK w0 w5 rp r2.2 O5 ∧ But O w w5 ∧ ∀ k, O5 k → O k ∨ w.heap.size ≤ k) := ⟨k5, K4.out.2.1.trans b5 K4.out.2.2, fun k hk => by
            rcases f5 k hk with h1 | h1
            · exact K4.out.2.2 k h1
            · exact .inr (Nat.le_trans K4.out.2.1.size h1)⟩
          clear k5 b5 f5 SY
          by_cases h2 : r2.1 = 0
          · rw [h2]
            have hF : Hid (mSwap t l = r3) := HSW.out.trans (by rw [if_neg (by omega), if_neg (by omega)])
            have RN := Lib.hid (K5.out.1.rename nxS mfS (by decide))
            change Hid (Calls _ _ _ _ (fun e w' => e = .returned (.int .i64 (r2.2.rename nxL mfL).1) ∧ Mr w0 w5 rp O5 (r2.2.rename nxL mfL).2 w')) at RN
            rw [← HR3.out] at RN
            unfold nxS mfS at RN
            go_wp2_with fail
            refine RN.out.mono ?_
            rintro e w6 ⟨rfl, hmv⟩
            have HZ := Lib.hid (Mr.then_ K5.out.2.1 K5.out.2.2 hmv)
            clear hmv RN
            go_wp2
            go_ret
            rw [hF.out]
            exact ⟨rfl, HZ.out⟩
          · have hF : Hid (mSwap t l = (r2.1, mClean r2.1 r2.2)) := HSW.out.trans (by rw [if_neg (by omega), if_pos h2])
            have c2 : ((r2.1 : Int) == 0) = false := by simp [h2]
            by_cases h42 : r2.1 = 42
            · have c42 : ((r2.1 : Int) != 42) = false := by simp [h42]
              go_wp2
              go_ret
              rw [hF.out]
              refine ⟨ret_i64 h42.symm, ?_⟩
              unfold mClean
              rw [if_neg (by omega)]
              exact ⟨_, K5.out.1, K5.out.2.1, K5.out.2.2⟩
            · have c42 : ((r2.1 : Int) != 42) = true := by simp [h42]
              have DL := Lib.hid (K5.out.1.delete nxS)
              change Hid (Calls _ _ _ _ (fun e w' => e = .returned (.int .i64 (r2.2.delete nxL).1) ∧ Mr w0 _ rp O5 (r2.2.delete nxL).2 w')) at DL
              unfold nxS at DL
              generalize hdl : r2.2.delete nxL = rdl at DL
              have HDL := Lib.hid hdl
              clear hdl
              go_wp2_with fail
              refine DL.out.mono ?_
              rintro e wz ⟨rfl, hmv⟩
              have HZ := Lib.hid (Mr.then_ K5.out.2.1 K5.out.2.2 hmv)
              clear hmv DL
              go_wp2
              go_ret
              rw [hF.out]
              refine ⟨rfl, ?_⟩
              unfold mClean
              rw [if_pos ⟨h2, h42⟩, HDL.out]
              exact HZ.out
        · have hF : Hid (mSwap t l = (r1.1, mClean r1.1 r1.2)) := HSW.out.trans (by rw [if_pos h1])
          have c1 : ((r1.1 : Int) == 0) = false := by simp [h1]
          by_cases h42 : r1.1 = 42
          · have c42 : ((r1.1 : Int) != 42) = false := by simp [h42]
            go_wp2
            go_ret
            rw [hF.out]
            refine ⟨ret_i64 h42.symm, ?_⟩
            unfold mClean
            rw [if_neg (by omega)]
            exact ⟨_, K4.out.1, K4.out.2.1, K4.out.2.2⟩
          · have c42 : ((r1.1 : Int) != 42) = true := by simp [h42]
            have DL := Lib.hid (K4.out.1.delete nxS)
            change Hid (Calls _ _ _ _ (fun e w' => e = .returned (.int .i64 (r1.2.delete nxL).1) ∧ Mr w0 _ rp O4 (r1.2.delete nxL).2 w')) at DL
            unfold nxS at DL
            generalize hdl : r1.2.delete nxL = rdl at DL
            have HDL := Lib.hid hdl
            clear hdl
            go_wp2_with fail
            refine DL.out.mono ?_
            rintro e wz ⟨rfl, hmv⟩
            have HZ := Lib.hid (Mr.then_ K4.out.2.1 K4.out.2.2 hmv)
            clear hmv DL
            go_wp2
            go_ret
            rw [hF.out]
            refine ⟨rfl, ?_⟩
            unfold mClean
            rw [if_pos ⟨h1, h42⟩, HDL.out]
            exact HZ.out
      · have hF : Hid (mSwap t l = r0) := HN.out h0
        have c0 : ((r0.1 : Int) != 0) = true := by simp [h0]
        go_wp2
        go_ret
        rw [hF.out]
        exact ⟨rfl, _, K1.out.1, K1.out.2.1, K1.out.2.2⟩
    · have hno : (fat t.D nxL).isSome = false := by simpa using his
      rw [hno]
      obtain ⟨t1, ht1⟩ : ∃ t1, t1 = t := ⟨_, rfl⟩
      have hd1 : delNext t = (0, t1) := by unfold delNext; rw [if_neg his, ht1]
      obtain ⟨O1, hO1⟩ : ∃ O1, O1 = O := ⟨_, rfl⟩
      have K1 : Hid (RK w0 w2 rp t1 O1 ∧ But O w w2 ∧ ∀ k, O1 k → O k ∨ w.heap.size ≤ k) := by rw [ht1, hO1]; exact ⟨HK2.out, But.of_below B2.out, fun _ hk => .inl hk⟩
      clear ht1 hO1 his hno
      obtain ⟨r1, hr1⟩ : ∃ r1, r1 = t1.write nxL (mPut l) := ⟨_, rfl⟩
      obtain ⟨r2, hr2⟩ : ∃ r2, r2 = r1.2.sync nxL := ⟨_, rfl⟩
      obtain ⟨r3, hr3⟩ : ∃ r3, r3 = r2.2.rename nxL mfL := ⟨_, rfl⟩
      have HR1 := Lib.hid hr1
      have HR2 := Lib.hid hr2
      have HR3 := Lib.hid hr3
      clear hr1 hr2 hr3
      have PU := Lib.hid (rput5_any l a n c _ (HRW.out _ K1.out.2.1 K1.out.2.2) hn)
      go_wp2_with fail
      refine PU.out.mono ?_
      rintro e w3 ⟨v, rfl, hov, hb3⟩
      obtain ⟨pa, pc, hv, hs3, hbb⟩ := hov.sl_base (mPut_byte l)
      subst hv
      have hpl := mPut_len l
      have WR := (K1.out.1.on hb3).write nxS (by decide) pa (mPut l).length pc (mPut l) hs3 (by omega) (fun hp k o e ho => by have := hbb k o e; have := K1.out.1.lt k ho; omega)
      change Calls _ _ _ _ (fun e w' => e = .returned (.int .i64 (t1.write nxL (mPut l)).1) ∧ Mr w0 w3 rp O1 (t1.write nxL (mPut l)).2 w') at WR
      rw [← HR1.out] at WR
      unfold nxS at WR
      have WR := Lib.hid WR
      have B3 := Lib.hid hb3
      clear PU hov hs3 hbb hb3
      go_wp2_with fail
      refine WR.out.mono ?_
      rintro e w4 ⟨rfl, hmv⟩
      obtain ⟨O4, k4, b4, f4⟩ := hmv
      have K4 : Hid (RK w0 w4 rp r1.2 O4 ∧ But O w w4 ∧ ∀ k, O4 k → O k ∨ w.heap.size ≤ k) := ⟨k4, K1.out.2.1.trans ((But.of_below (O := O1) B3.out).trans b4 (fun _ hi => .inl hi)) K1.out.2.2, fun k hk => by
        rcases f4 k hk with h1 | h1
        · exact K1.out.2.2 k h1
        · exact .inr (Nat.le_trans (Nat.le_trans K1.out.2.1.size B3.out.size) h1)⟩
      clear k4 b4 f4 WR
      have hmap : IsMap r1.2.D := canon_map K4.out.1.good.canon
      rw [HR1.out] at hmap
      have hsw := mSwap_of t t1 l hmap hok hd1
      rw [← HR1.out, ← HR2.out, ← HR3.out] at hsw
      have HSW := Lib.hid hsw
      clear hsw hmap
      by_cases h1 : r1.1 = 0
      · rw [h1]
        have SY := Lib.hid (K4.out.1.sync nxS)
        change Hid (Calls _ _ _ _ (fun e w' => e = .returned (.int .i64 (r1.2.sync nxL).1) ∧ Mr w0 w4 rp O4 (r1.2.sync nxL).2 w')) at SY
        rw [← HR2.out] at SY
        unfold nxS at SY
        go_wp2_with fail
        refine SY.out.mono ?_
        rintro e w5 ⟨rfl, hmv⟩
        obtain ⟨O5, k5, b5, f5⟩ := hmv
        have K5 : Hid (RK w0 w5 rp r2.2 O5 ∧ But O w w5 ∧ ∀ k, O5 k → O k ∨ w.heap.size ≤ k) := ⟨k5, K4.out.2.1.trans b5 K4.out.2.2, fun k hk => by
          rcases f5 k hk with h1 | h1
          · exact K4.out.2.2 k h1
          · exact .inr (Nat.le_trans K4.out.2.1.size h1)⟩
        clear k5 b5 f5 SY
        by_cases h2 : r2.1 = 0
        · rw [h2]
          have hF : Hid (mSwap t l = r3) := HSW.out.trans (by rw [if_neg (by omega), if_neg (by omega)])
          have RN := Lib.hid (K5.out.1.rename nxS mfS (by decide))
          change Hid (Calls _ _ _ _ (fun e w' => e = .returned (.int .i64 (r2.2.rename nxL mfL).1) ∧ Mr w0 w5 rp O5 (r2.2.rename nxL mfL).2 w')) at RN
          rw [← HR3.out] at RN
          unfold nxS mfS at RN
          go_wp2_with fail
          refine RN.out.mono ?_
          rintro e w6 ⟨rfl, hmv⟩
          have HZ := Lib.hid (Mr.then_ K5.out.2.1 K5.out.2.2 hmv)
          clear hmv RN
          go_wp2
          go_ret
          rw [hF.out]
          exact ⟨rfl, HZ.out⟩
        · have hF : Hid (mSwap t l = (r2.1, mClean r2.1 r2.2)) := HSW.out.trans (by rw [if_neg (by omega), if_pos h2])
          have c2 : ((r2.1 : Int) == 0) = false := by simp [h2]
          by_cases h42 : r2.1 = 42
          · have c42 : ((r2.1 : Int) != 42) = false := by simp [h42]
            go_wp2
            go_ret
            rw [hF.out]
            refine ⟨ret_i64 h42.symm, ?_⟩
            unfold mClean
            rw [if_neg (by omega)]
            exact ⟨_, K5.out.1, K5.out.2.1, K5.out.2.2⟩
          · have c42 : ((r2.1 : Int) != 42) = true := by simp [h42]
            have DL := Lib.hid (K5.out.1.delete nxS)
            change Hid (Calls _ _ _ _ (fun e w' => e = .returned (.int .i64 (r2.2.delete nxL).1) ∧ Mr w0 _ rp O5 (r2.2.delete nxL).2 w')) at DL
            unfold nxS at DL
            generalize hdl : r2.2.delete nxL = rdl at DL
            have HDL := Lib.hid hdl
            clear hdl
            go_wp2_with fail
            refine DL.out.mono ?_
            rintro e wz ⟨rfl, hmv⟩
            have HZ := Lib.hid (Mr.then_ K5.out.2.1 K5.out.2.2 hmv)
            clear hmv DL
            go_wp2
            go_ret
            rw [hF.out]
            refine ⟨rfl, ?_⟩
            unfold mClean
            rw [if_pos ⟨h2, h42⟩, HDL.out]
            exact HZ.out
      · have hF : Hid (mSwap t l = (r1.1, mClean r1.1 r1.2)) := HSW.out.trans (by rw [if_pos h1])
        have c1 : ((r1.1 : Int) == 0) = false := by simp [h1]
        by_cases h42 : r1.1 = 42
        · have c42 : ((r1.1 : Int) != 42) = false := by simp [h42]
          go_wp2
          go_ret
          rw [hF.out]
          refine ⟨ret_i64 h42.symm, ?_⟩
          unfold mClean
          rw [if_neg (by omega)]
          exact ⟨_, K4.out.1, K4.out.2.1, K4.out.2.2⟩
        · have c42 : ((r1.1 : Int) != 42) = true := by simp [h42]
          have DL := Lib.hid (K4.out.1.delete nxS)
          change Hid (Calls _ _ _ _ (fun e w' => e = .returned (.int .i64 (r1.2.delete nxL).1) ∧ Mr w0 _ rp O4 (r1.2.delete nxL).2 w')) at DL
          unfold nxS at DL
          generalize hdl : r1.2.delete nxL = rdl at DL
          have HDL := Lib.hid hdl
          clear hdl
          go_wp2_with fail
          refine DL.out.mono ?_
          rintro e wz ⟨rfl, hmv⟩
          have HZ := Lib.hid (Mr.then_ K4.out.2.1 K4.out.2.2 hmv)
          clear hmv DL
          go_wp2
          go_ret
          rw [hF.out]
          refine ⟨rfl, ?_⟩
          unfold mClean
          rw [if_pos ⟨h1, h42⟩, HDL.out]
          exact HZ.out
  · have hsw : Hid (mSwap t l = (1, t)) := if_neg hok
    have hno : mOk l = false := by simpa using hok
    rw [hno] at R
    go_enter Tryz.func11, Tryz.ntmps11
    go_wp2_with fail
    refine R.out.mono ?_
    rintro e w1 ⟨rfl, hb1⟩
    have HF := Lib.hid (show Mr w0 w rp O t w1 from ⟨O, HK.out.on hb1, But.of_below hb1, fun _ hk => .inl hk⟩)
    clear hb1
    go_wp2
    go_ret
    rw [hsw.out]
    exact ⟨rfl, HF.out⟩
end Go.Proofs.YtohiheohndmccaaGreat
