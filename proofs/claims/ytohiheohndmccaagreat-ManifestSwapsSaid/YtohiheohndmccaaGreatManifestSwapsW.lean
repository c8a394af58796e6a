/- ManifestSwaps: the walk. -/
import Derived.Test.YtohiheohndmccaaGreatRfX
import Derived.Test.YtohiheohndmccaaGreatPlay
import Derived.Test.YtohiheohndmccaaGreatMfI
namespace Go.Proofs.YtohiheohndmccaaGreat
open Go.RowKit Go.Sort
open Go.Maps
attribute [local go_sem] Oper.semAt_some

/-- All that an operation is, wherever the world has come. -/
theorem ops_fix {w0 : World} {a : Option Addr} {len cap : Nat} {l : List OpV} (ho : OpsIn w0 w0.heap.size a len cap l) {k : Nat} (hk : k < len) : ∃ b o op, a = some ⟨b, o, none⟩ ∧ ∀ x, Below w0.heap.size w0 x →
    (x.cell? ⟨b, o + k * 6, none⟩ = some (.int .i64 op.what) ∧ x.cell? ⟨b, o + k * 6 + 1, none⟩ = some (.string op.nm) ∧ x.cell? ⟨b, o + k * 6 + 2, none⟩ = some (.string op.to_) ∧
      x.cell? ⟨b, o + k * 6 + 3, none⟩ = some (.slice op.ba op.bs.length op.bc) ∧ x.cell? ⟨b, o + k * 6 + 4, none⟩ = some (.int .i64 op.n) ∧ x.cell? ⟨b, o + k * 6 + 5, none⟩ = some (.slice op.ka op.ks.length op.kc)) ∧ OpIn x w0.heap.size op := by
  obtain ⟨b, o, op, e, hop, _⟩ := ho.at_later (Below.refl _ _) hk
  refine ⟨b, o, op, e, fun x hx => ?_⟩
  obtain ⟨b', o', op', e', hop', hc, hi⟩ := ho.at_later hx hk
  rw [e] at e'
  injection e' with e'
  injection e' with e1 e2
  subst e1 e2
  have : op' = op := by have h1 := hop'.symm.trans hop; injection h1
  subst this
  exact ⟨hc, hi⟩
theorem OpsIn.great {w0 w : World} {a : Option Addr} {len cap : Nat} {l : List OpV} (h : OpsIn w0 w0.heap.size a len cap l) (hb : Below w0.heap.size w0 w) : OpsIn w w.heap.size a len cap l :=
  (h.below hb (Nat.le_refl _)) |> fun h => ⟨h.length, h.le, h.max, fun hp => by obtain ⟨b, o, e, hlt, hc⟩ := h.at_ hp; exact ⟨b, o, e, Nat.lt_of_lt_of_le hlt hb.size, fun k op hop => ⟨(hc k op hop).1, (hc k op hop).2.below (Below.refl w.heap.size w) hb.size⟩⟩⟩
set_option linter.unusedSimpArgs false in
set_option maxRecDepth 100000 in
set_option maxHeartbeats 40000000 in
theorem manifestSwaps_walk (room : Int) (a1 : Option Addr) (len1 cap1 : Nat) (l1 : List OpV) (ka : Option Addr) (kn kc : Nat) (ks : List Int) (a2 : Option Addr) (len2 cap2 : Nat) (l2 : List OpV) (w0 : World)
    (ho1 : OpsIn w0 w0.heap.size a1 len1 cap1 l1) (hz1 : len1 ≤ 140737488351232) (hkr : Row w0 w0.heap.size ka kn kc 1 (intsC ks)) (hkl : ks.length = kn) (ho2 : OpsIn w0 w0.heap.size a2 len2 cap2 l2) (hz2 : len2 ≤ 140737488351232) :
    Calls Tryz.prog 3 #[.int .i64 room, .slice a1 len1 cap1, .slice ka kn kc, .slice a2 len2 cap2] w0 fun e w' => e = .returned (.bool true) ∧ Below w0.heap.size w0 w' := by
  have HD := Lib.hid (head5_any w0)
  have hle1 := ho1.le
  have hle2 := ho2.le
  have HO1 := Lib.hid ho1
  have HO2 := Lib.hid ho2
  have HKR := Lib.hid hkr
  clear ho1 ho2 hkr
  by_cases hr : 0 ≤ room ∧ room ≤ 1048576
  · obtain ⟨n, rfl⟩ := Int.eq_ofNat_of_zero_le hr.1
    have hn : n ≤ 1048576 := by omega
    go_enter Tryz.func3, Tryz.ntmps3
    go_wp2_with fail
    refine HD.out.mono ?_
    rintro e w1 ⟨rfl, hb1⟩
    have N1 := Lib.hid (DK.new n hn w1)
    have HB1 := Lib.hid hb1
    clear hb1 HD
    go_wp2_with fail
    refine N1.out.mono ?_
    rintro e w2 ⟨dp, O, rfl, hk, hb2, hO2⟩
    have N2 := Lib.hid (RK.new n hn w2)
    have K2 := Lib.hid (And.intro hk (And.intro hb2 hO2))
    clear hk hb2 hO2 N1
    go_wp2_with fail
    refine N2.out.mono ?_
    rintro e w3 ⟨rp, P, rfl, hk, hb3, hP3⟩
    have hz12 := K2.out.2.1.size
    have D3 := Lib.hid (show DP w1 w3 dp rp ⟨.map [], n, -1, 0⟩ ⟨.map [], n, -1, 0⟩ O P from ⟨K2.out.1.on hb3, ⟨hk.is, fun k hp => Nat.le_trans hz12 (hk.base k hp), K2.out.2.1.trans (hb3.mono hz12)⟩, fun k ho hp => by have := K2.out.1.lt k ho; have := hP3 k hp; omega⟩)
    have HB3 := Lib.hid (HB1.out.trans (D3.out.dk.below.mono HB1.out.size))
    clear hk hb3 hP3 N2 K2
    have GR := Lib.hid (great_any a1 len1 cap1 l1 w3 (HO1.out.great HB3.out) hz1)
    go_wp2_with fail
    refine GR.out.mono ?_
    rintro e w4 ⟨g, rfl, hg, hb4⟩
    have D4 := Lib.hid (D3.out.on hb4)
    have HB4 := Lib.hid (HB3.out.trans (hb4.mono HB3.out.size))
    have HG1 := Lib.hid hg
    clear hb4 hg GR D3 HB3
    cases g
    · have GR := Lib.hid (great_any a2 len2 cap2 l2 w4 (HO2.out.great HB4.out) hz2)
      go_wp2_with fail
      refine GR.out.mono ?_
      rintro e w5 ⟨g, rfl, hg, hb5⟩
      have D5 := Lib.hid (D4.out.on hb5)
      have HB5 := Lib.hid (HB4.out.trans (hb5.mono HB4.out.size))
      have HG2 := Lib.hid hg
      clear hb5 hg GR D4 HB4
      cases g
      · have h301 := HG1.out (by first | rfl | trivial)
        have h302 := HG2.out (by first | rfl | trivial)
        clear HG1 HG2
        by_cases h9 : 900 < kn
        · have h9' : (900 : Int) < (kn : Int) := by omega
          go_wp2
          go_ret
          exact ⟨rfl, HB5.out⟩
        have h9' : (kn : Int) ≤ 900 := by omega
        go_wp2_with fail
        go_loopw [12] (fun i wr => ∃ (k : Nat) (t : St) (O' P' : Nat → Prop), k ≤ len1 ∧ i = .int .i64 (k : Int) ∧ DP w1 wr dp rp t t O' P') (fun i _ => len1 - (intOf i).toNat)
        case atStart => exact ⟨0, _, O, P, Nat.zero_le _, rfl, D5.out⟩
        case round =>
          obtain ⟨k, t, O', P', hk, rfl, hdp⟩ := hrel
          have D := Lib.hid hdp
          have HB := Lib.hid (HB1.out.trans (hdp.dk.below.mono HB1.out.size))
          clear hdp D5 HB5
          by_cases hlt : k < len1
          · obtain ⟨b, o, op, rfl, hfix⟩ := ops_fix HO1.out hlt
            have FX := Lib.hid hfix
            obtain ⟨⟨e0, e1, e2, e3, e4, e5⟩, hin⟩ := hfix _ HB.out
            have DO := Lib.hid (D.out.do_ op hin HB1.out.size)
            unfold opVal at DO
            clear hin hfix
            go_wp2_with fail
            refine DO.out.mono ?_
            rintro e wa ⟨rfl, Oa, da, ba⟩
            have DA := Lib.hid da
            have HBa := Lib.hid (HB.out.trans (ba.mono HB1.out.size))
            clear da ba DO e0 e1 e2 e3 e4 e5 D
            obtain ⟨⟨e0, e1, e2, e3, e4, e5⟩, hin⟩ := FX.out _ HBa.out
            have PL := Lib.hid (DA.out.plain op hin HB1.out.size)
            unfold opVal at PL
            clear hin
            go_wp2_with fail
            refine PL.out.mono ?_
            rintro e wb ⟨rfl, Pb, db, bb⟩
            have DB := Lib.hid db
            clear db bb PL DA e0 e1 e2 e3 e4 e5
            go_wp2
            go_roundw
            case rel => exact ⟨k + 1, _, Oa, Pb, by omega, by go_num, DB.out⟩
            case measure => simp [intOf]; omega
          · have hkl1 : ¬ (k : Int) < (len1 : Int) := by omega
            have ROW := Lib.hid (fun (x : World) (hx : Below w0.heap.size w0 x) => (HKR.out.below hx (Nat.le_refl _)).more hx.size)
            have FAR := Lib.hid (fun (Q : Nat → Prop) (hQ : ∀ k, Q k → w1.heap.size ≤ k) (hp : 0 < kn) (k o : Nat) (e : ka = some ⟨k, o, none⟩) (hq : Q k) => (by
              obtain ⟨b', o', e', hlt', _⟩ := HKR.out.at_ hp
              rw [e] at e'; injection e' with e'; injection e' with e'
              have h1 := hQ k hq
              have h2 := HB1.out.size
              omega : False))
            have SW := Lib.hid (mswap_any D.out.dk ks ka kn kc (ROW.out _ HB.out) hkl (FAR.out _ D.out.dk.base))
            obtain ⟨rs, hrs⟩ : ∃ rs, rs = mSwap t ks := ⟨_, rfl⟩
            rw [← hrs] at SW
            have HRS := Lib.hid hrs
            clear hrs
            go_wp2_with fail
            refine SW.out.mono ?_
            rintro e wa ⟨rfl, hmv⟩
            obtain ⟨Oa, da, ba⟩ := D.out.one hmv
            have DA := Lib.hid da
            have HBa := Lib.hid (HB1.out.trans (da.dk.below.mono HB1.out.size))
            clear da ba hmv SW D
            have SW := Lib.hid (rswap5_any DA.out.rk ks ka kn kc (ROW.out _ HBa.out) hkl (FAR.out _ DA.out.rk.base))
            rw [← HRS.out] at SW
            go_wp2_with fail
            refine SW.out.mono ?_
            rintro e wb ⟨rfl, hmv⟩
            obtain ⟨Pb, db, bb⟩ := DA.out.two hmv
            have DB := Lib.hid db
            clear db bb hmv SW DA ROW FAR
            generalize rs = r at *
            have M1 := Lib.hid (mload_any DB.out.dk)
            obtain ⟨ML, hML⟩ : ∃ ML, ML = mLoad r.2 := ⟨_, rfl⟩
            rw [← hML] at M1
            have HML := Lib.hid hML
            clear hML
            go_wp2_with fail
            refine M1.out.mono ?_
            rintro e wc ⟨v, rfl, hv, hbc⟩
            obtain ⟨xa, xc, hvx, hx, _⟩ := hv.out
            subst hvx
            have DC := Lib.hid (DB.out.on hbc)
            have HX := Lib.hid hx
            clear hv hx hbc M1 DB
            have M2 := Lib.hid (rload_any DC.out.rk)
            rw [← HML.out] at M2
            go_wp2_with fail
            refine M2.out.mono ?_
            rintro e wd ⟨v, rfl, hv, hbd⟩
            obtain ⟨ya, yc, hvy, hy, _⟩ := hv.out
            subst hvy
            have DD := Lib.hid (DC.out.on hbd)
            have SM := Lib.hid (rsame_any ML.1 ML.1 xa ya _ _ xc yc wd ((HX.out.below hbd (Nat.le_refl _)).more hbd.size) hy rfl rfl)
            rw [decide_eq_true rfl] at SM
            clear hv hy hbd M2 DC HX
            generalize ML.1.length = mn at SM
            go_wp2_with fail
            refine SM.out.mono ?_
            rintro e we ⟨rfl, be⟩
            have DE0 := Lib.hid (DD.out.on be)
            clear SM be DD
            obtain ⟨BS, IS, L, T, S, htell⟩ := DE0.out.tells mfS (by decide)
            have TL := Lib.hid htell
            clear htell
            obtain ⟨ll, hll⟩ : ∃ ll, ll = L.length := ⟨_, rfl⟩
            have L1 := Lib.hid (TL.out.list1 _ _ _ DE0.out)
            rw [← hll] at L1
            have LL2 := Lib.hid (fun x O P hx => TL.out.list2 x O P hx)
            rw [← hll] at LL2
            have SS := Lib.hid (sameStr_any L)
            rw [← hll] at SS
            clear hll
            go_wp2_with fail
            refine L1.out.mono ?_
            rintro e wf ⟨ga, gc, rfl, rx, de, be⟩
            have DE := Lib.hid de
            have RX := Lib.hid rx
            clear L1 rx de be
            have L2 := Lib.hid (LL2.out _ _ _ DE.out)
            go_wp2_with fail
            refine L2.out.mono ?_
            rintro e wg ⟨ha, hc, rfl, ry, df, bf⟩
            have DF := Lib.hid df
            have S1 := Lib.hid (SS.out ga ha gc hc wg ((RX.out.below bf (Nat.le_refl _)).more bf.size) ry)
            clear L2 LL2 ry df bf RX SS
            go_wp2_with fail
            refine S1.out.mono ?_
            rintro e wh ⟨rfl, bg⟩
            have DG := Lib.hid (DF.out.on bg)
            have U1 := Lib.hid (TL.out.used1 _ _ _ DG.out)
            clear S1 bg
            go_wp2_with fail
            refine U1.out.mono ?_
            rintro e wi ⟨rfl, dh, bh⟩
            have DH := Lib.hid dh
            have U2 := Lib.hid (TL.out.used2 _ _ _ DH.out)
            clear U1 dh bh
            go_wp2_with fail
            refine U2.out.mono ?_
            rintro e wj ⟨rfl, di, bi⟩
            have DI := Lib.hid di
            clear U2 di bi TL HB HBa
            go_wp2_with fail
            go_loopw [19] (fun i wx => ∃ (k : Nat) (t : St) (O' P' : Nat → Prop), k ≤ len2 ∧ i = .int .i64 (k : Int) ∧ DP w1 wx dp rp t t O' P') (fun i _ => len2 - (intOf i).toNat)
            case atStart => exact ⟨0, _, Oa, Pb, Nat.zero_le _, rfl, DI.out⟩
            case round =>
              obtain ⟨k2, t2, O2, P2, hk2, rfl, hdp⟩ := hrel
              have D := Lib.hid hdp
              have HB := Lib.hid (HB1.out.trans (hdp.dk.below.mono HB1.out.size))
              clear hdp
              by_cases hlt2 : k2 < len2
              · obtain ⟨b, o, op, rfl, hfix⟩ := ops_fix HO2.out hlt2
                have FX := Lib.hid hfix
                have D0 := Lib.hid (D.out.on (Below.drew (Below.refl _ _)))
                have HB0 := Lib.hid (HB1.out.trans (D0.out.dk.below.mono HB1.out.size))
                have DO := Lib.hid (D0.out.do_ op (FX.out _ HB0.out).2 HB1.out.size)
                unfold opVal at DO
                clear hfix
                go_wp2_with fail
                refine wp_region_held_drew (S := fun x => x.cell? ⟨b, o + k2 * 6, none⟩ = some (.int .i64 op.what) ∧ x.cell? ⟨b, o + k2 * 6 + 1, none⟩ = some (.string op.nm) ∧ x.cell? ⟨b, o + k2 * 6 + 2, none⟩ = some (.string op.to_) ∧
                  x.cell? ⟨b, o + k2 * 6 + 3, none⟩ = some (.slice op.ba op.bs.length op.bc) ∧ x.cell? ⟨b, o + k2 * 6 + 4, none⟩ = some (.int .i64 op.n) ∧ x.cell? ⟨b, o + k2 * 6 + 5, none⟩ = some (.slice op.ka op.ks.length op.kc)) (by kernel_rfl) (FX.out _ HB0.out).1 (fun hHeld => ?_)
                refine wpAnyH_take (i := 0) (v := ?_) rfl (by kernel_rfl) (by kernel_rfl) (by kernel_rfl) (fun _ _ _ h => h) (Or.inl ⟨by rfl, ?_⟩) (by assumption) ?_
                rotate_left
                · intro w hSw
                  (try dsimp only at hSw)
                  go_simp
                  all_goals with_reducible rfl
                try simp only [Act.put, List.getElem_toArray, List.getElem_cons_succ, List.getElem_cons_zero, List.setIfInBounds_toArray, List.set_cons_zero, List.set_cons_succ]
                refine wpAnyH_take (i := 1) (v := ?_) rfl (by kernel_rfl) (by kernel_rfl) (by kernel_rfl) (fun _ _ _ h => h) (Or.inl ⟨by rfl, ?_⟩) (by assumption) ?_
                rotate_left
                · intro w hSw
                  (try dsimp only at hSw)
                  go_simp
                  all_goals with_reducible rfl
                try simp only [Act.put, List.getElem_toArray, List.getElem_cons_succ, List.getElem_cons_zero, List.setIfInBounds_toArray, List.set_cons_zero, List.set_cons_succ]
                refine wpAnyH_take (i := 2) (v := ?_) rfl (by kernel_rfl) (by kernel_rfl) (by kernel_rfl) (fun _ _ _ h => h) (Or.inl ⟨by rfl, ?_⟩) (by assumption) ?_
                rotate_left
                · intro w hSw
                  (try dsimp only at hSw)
                  go_simp
                  all_goals with_reducible rfl
                try simp only [Act.put, List.getElem_toArray, List.getElem_cons_succ, List.getElem_cons_zero, List.setIfInBounds_toArray, List.set_cons_zero, List.set_cons_succ]
                refine wpAnyH_take (i := 3) (v := ?_) rfl (by kernel_rfl) (by kernel_rfl) (by kernel_rfl) (fun _ _ _ h => h) (Or.inl ⟨by rfl, ?_⟩) (by assumption) ?_
                rotate_left
                · intro w hSw
                  (try dsimp only at hSw)
                  go_simp
                  all_goals with_reducible rfl
                try simp only [Act.put, List.getElem_toArray, List.getElem_cons_succ, List.getElem_cons_zero, List.setIfInBounds_toArray, List.set_cons_zero, List.set_cons_succ]
                refine wpAnyH_take (i := 4) (v := ?_) rfl (by kernel_rfl) (by kernel_rfl) (by kernel_rfl) (fun _ _ _ h => h) (Or.inl ⟨by rfl, ?_⟩) (by assumption) ?_
                rotate_left
                · intro w hSw
                  (try dsimp only at hSw)
                  go_simp
                  all_goals with_reducible rfl
                try simp only [Act.put, List.getElem_toArray, List.getElem_cons_succ, List.getElem_cons_zero, List.setIfInBounds_toArray, List.set_cons_zero, List.set_cons_succ]
                refine wpAnyH_take (i := 6) (v := ?_) rfl (by kernel_rfl) (by kernel_rfl) (by kernel_rfl) (fun _ _ _ h => h) (Or.inl ⟨by rfl, ?_⟩) (by assumption) ?_
                rotate_left
                · intro w hSw
                  (try dsimp only at hSw)
                  go_simp
                  all_goals with_reducible rfl
                try simp only [Act.put, List.getElem_toArray, List.getElem_cons_succ, List.getElem_cons_zero, List.setIfInBounds_toArray, List.set_cons_zero, List.set_cons_succ]
                refine wpAnyH_take (i := 7) (v := ?_) rfl (by kernel_rfl) (by kernel_rfl) (by kernel_rfl) (fun _ _ _ h => h) (Or.inl ⟨by rfl, ?_⟩) (by assumption) ?_
                rotate_left
                · intro w hSw
                  (try dsimp only at hSw)
                  go_simp
                  all_goals with_reducible rfl
                try simp only [Act.put, List.getElem_toArray, List.getElem_cons_succ, List.getElem_cons_zero, List.setIfInBounds_toArray, List.set_cons_zero, List.set_cons_succ]
                refine wpAnyH_take (i := 8) (v := ?_) rfl (by kernel_rfl) (by kernel_rfl) (by kernel_rfl) (fun _ _ _ h => h) (Or.inl ⟨by rfl, ?_⟩) (by assumption) ?_
                rotate_left
                · intro w hSw
                  (try dsimp only at hSw)
                  go_simp
                  all_goals with_reducible rfl
                try simp only [Act.put, List.getElem_toArray, List.getElem_cons_succ, List.getElem_cons_zero, List.setIfInBounds_toArray, List.set_cons_zero, List.set_cons_succ]
                refine wpAnyH_take (i := 9) (v := ?_) rfl (by kernel_rfl) (by kernel_rfl) (by kernel_rfl) (fun _ _ _ h => h) (Or.inl ⟨by rfl, ?_⟩) (by assumption) ?_
                rotate_left
                · intro w hSw
                  (try dsimp only at hSw)
                  go_simp
                  all_goals with_reducible rfl
                try simp only [Act.put, List.getElem_toArray, List.getElem_cons_succ, List.getElem_cons_zero, List.setIfInBounds_toArray, List.set_cons_zero, List.set_cons_succ]
                refine wpAnyH_take (i := 10) (v := ?_) rfl (by kernel_rfl) (by kernel_rfl) (by kernel_rfl) (fun _ _ _ h => h) (Or.inl ⟨by rfl, ?_⟩) (by assumption) ?_
                rotate_left
                · intro w hSw
                  (try dsimp only at hSw)
                  go_simp
                  all_goals with_reducible rfl
                try simp only [Act.put, List.getElem_toArray, List.getElem_cons_succ, List.getElem_cons_zero, List.setIfInBounds_toArray, List.set_cons_zero, List.set_cons_succ]
                refine wpAnyH_ready (rs := [5]) (by kernel_rfl) (by simp) ?_
                refine AllReadyH.cons rfl (fun K hK => ?_) AllReadyH.nil
                rw [if_pos (by rfl)]
                go_simp
                go_at_call 8
                refine DO.out.mono ?_
                rintro e wa ⟨rfl, Oc, da, ba⟩
                have DA := Lib.hid da
                have HBc := Lib.hid (HB0.out.trans (ba.mono HB1.out.size))
                clear da ba DO D
                have PL := Lib.hid (DA.out.plain op (FX.out _ HBc.out).2 HB1.out.size)
                unfold opVal at PL
                refine hK.out _ _ ?_ (fun hHeld => ?_)
                · exact (FX.out _ HBc.out).1
                clear hK K
                try simp only [Act.put, List.getElem_toArray, List.getElem_cons_succ, List.getElem_cons_zero, List.setIfInBounds_toArray, List.set_cons_zero, List.set_cons_succ]
                refine wpAnyH_ready (rs := [11]) (by kernel_rfl) (by simp) ?_
                refine AllReadyH.cons rfl (fun K hK => ?_) AllReadyH.nil
                rw [if_pos (by rfl)]
                go_simp
                go_at_call 9
                refine PL.out.mono ?_
                rintro e wb ⟨rfl, Pd, db, bb⟩
                have DB := Lib.hid db
                have HBd := Lib.hid (HBc.out.trans (bb.mono HB1.out.size))
                clear db bb PL DA
                refine hK.out _ _ ?_ (fun hHeld => ?_)
                · exact (FX.out _ HBd.out).1
                clear hK K
                try simp only [Act.put, List.getElem_toArray, List.getElem_cons_succ, List.getElem_cons_zero, List.setIfInBounds_toArray, List.set_cons_zero, List.set_cons_succ]
                refine wpAnyH_take (i := 12) (v := ?_) rfl (by kernel_rfl) (by kernel_rfl) (by kernel_rfl) (fun _ _ _ h => h) (Or.inl ⟨by rfl, ?_⟩) (by assumption) ?_
                rotate_left
                · intro w hSw
                  (try dsimp only at hSw)
                  go_simp
                  all_goals with_reducible rfl
                try simp only [Act.put, List.getElem_toArray, List.getElem_cons_succ, List.getElem_cons_zero, List.setIfInBounds_toArray, List.set_cons_zero, List.set_cons_succ]
                refine wpAnyH_done (by kernel_rfl) ?_ _
                clear hHeld
                generalize t2.do_ op = r2 at *
                go_wp2
                go_roundw
                case rel => exact ⟨k2 + 1, _, Oc, Pd, by omega, by go_num, DB.out⟩
                case measure => simp [intOf]; omega
              · have hkl2 : ¬ (k2 : Int) < (len2 : Int) := by omega
                obtain ⟨BS, IS, L, T, S, htell⟩ := D.out.tells mfS (by decide)
                have TL := Lib.hid htell
                clear htell
                have Y1 := TL.out.synced1 _ _ _ D.out
                have YY2 := fun x O P hx => TL.out.synced2 x O P hx
                unfold mfS at Y1 YY2
                have Y1 := Lib.hid Y1
                have YY2 := Lib.hid YY2
                go_wp2_with fail
                refine Y1.out.mono ?_
                rintro e wk ⟨rfl, dj, bj⟩
                have DJ := Lib.hid dj
                have Y2 := Lib.hid (YY2.out _ _ _ DJ.out)
                clear Y1 dj bj
                go_wp2_with fail
                refine Y2.out.mono ?_
                rintro e wl ⟨rfl, dk, bk⟩
                have HZ := Lib.hid (HB1.out.trans (dk.dk.below.mono HB1.out.size))
                clear Y2 dk bk
                go_wp2
                go_ret
                exact ⟨rfl, HZ.out⟩
      · go_wp2
        go_ret
        exact ⟨rfl, HB5.out⟩
    · go_wp2
      go_ret
      exact ⟨rfl, HB4.out⟩
  · go_enter Tryz.func3, Tryz.ntmps3
    go_wp2_with fail
    refine HD.out.mono ?_
    rintro e w1 ⟨rfl, hb1⟩
    have HB1 := Lib.hid hb1
    clear hb1 HD
    go_wp2_with fail
    refine (new_no room hr w1).mono ?_
    rintro e w2 ⟨rfl, rfl⟩
    go_wp2_with fail
    refine (rnew_no room hr w1).mono ?_
    rintro e w2 ⟨rfl, rfl⟩
    go_wp2
    go_ret
    exact ⟨rfl, HB1.out⟩
end Go.Proofs.YtohiheohndmccaaGreat
