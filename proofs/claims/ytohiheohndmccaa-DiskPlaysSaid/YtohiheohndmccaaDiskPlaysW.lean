/- DiskPlays: the walk. -/
import Derived.Test.YtohiheohndmccaaPlay
import Derived.Test.YtohiheohndmccaaDkP
namespace Go.Proofs.Ytohiheohndmccaa
open Go.RowKit Go.Sort
open Go.Maps
attribute [local go_sem] Oper.semAt_some

set_option linter.unusedSimpArgs false in
set_option maxRecDepth 100000 in
set_option maxHeartbeats 40000000 in
theorem diskPlays_walk (room : Int) (a : Option Addr) (len cap : Nat) (l : List OpV) (nm : ByteArray) (hnm : nm.size ≤ maxLen) (w0 : World) (ho : OpsIn w0 w0.heap.size a len cap l) (hlz : len ≤ 140737488351232) :
    Calls Try.prog 3 #[.int .i64 room, .slice a len cap, .string nm] w0 fun e w' => e = .returned (.bool true) ∧ Below w0.heap.size w0 w' := by
  have HD := Lib.hid (head_any w0)
  have hle := ho.le
  have HO := Lib.hid ho
  clear ho
  by_cases hr : 0 ≤ room ∧ room ≤ 1048576
  · obtain ⟨n, rfl⟩ := Int.eq_ofNat_of_zero_le hr.1
    have hn : n ≤ 1048576 := by omega
    go_enter Try.func3, Try.ntmps3
    go_wp2_with fail
    refine HD.out.mono ?_
    rintro e w1 ⟨rfl, hb1⟩
    have N1 := Lib.hid (DK.new n hn w1)
    have HB1 := Lib.hid hb1
    clear hb1 HD
    go_wp2_with fail
    refine N1.out.mono ?_
    rintro e w2 ⟨dp, O, rfl, hk, hb2, hO2⟩
    have N2 := Lib.hid (RK.new n hn w2)
    have K2 := Lib.hid (And.intro hk (And.intro hb2 hO2))
    clear hk hb2 hO2 N1
    go_wp2_with fail
    refine N2.out.mono ?_
    rintro e w3 ⟨rp, P, rfl, hk, hb3, hP3⟩
    have hz12 := K2.out.2.1.size
    have D3 := Lib.hid (show DP w1 w3 dp rp ⟨.map [], n, -1, 0⟩ ⟨.map [], n, -1, 0⟩ O P from ⟨K2.out.1.on hb3, ⟨hk.is, fun k hp => Nat.le_trans hz12 (hk.base k hp), K2.out.2.1.trans (hb3.mono hz12)⟩, fun k ho hp => by have := K2.out.1.lt k ho; have := hP3 k hp; omega⟩)
    have HB3 := Lib.hid (HB1.out.trans (D3.out.dk.below.mono HB1.out.size))
    clear hk hb3 hP3 N2 K2
    have GR := Lib.hid (great_any a len cap l w3 ((HO.out.below HB3.out (Nat.le_refl _)) |> fun h => ⟨h.length, h.le, h.max, fun hp => by obtain ⟨b, o, e, hlt, hc⟩ := h.at_ hp; exact ⟨b, o, e, Nat.lt_of_lt_of_le hlt HB3.out.size, fun k op hop => ⟨(hc k op hop).1, (hc k op hop).2.below (Below.refl w3.heap.size w3) HB3.out.size⟩⟩⟩) hlz)
    go_wp2_with fail
    refine GR.out.mono ?_
    rintro e w4 ⟨g, rfl, hg, hb4⟩
    have D4 := Lib.hid (D3.out.on hb4)
    have HB4 := Lib.hid (HB3.out.trans (hb4.mono HB3.out.size))
    have HG := Lib.hid hg
    clear hb4 hg GR D3 HB3
    cases g
    · have h300 := HG.out rfl
      clear HG
      by_cases h9 : 900 < nm.size
      · have h9' : (900 : Int) < (nm.size : Int) := by omega
        go_wp2
        go_ret
        exact ⟨rfl, HB4.out⟩
      have h9' : (nm.size : Int) ≤ 900 := by omega
      go_wp2_with fail
      go_loopw [10] (fun i wr => ∃ (k : Nat) (t : St) (O' P' : Nat → Prop), k ≤ len ∧ i = .int .i64 (k : Int) ∧ DP w1 wr dp rp t t O' P') (fun i _ => len - (intOf i).toNat)
      case atStart => exact ⟨0, _, O, P, Nat.zero_le _, rfl, D4.out⟩
      case round =>
        obtain ⟨k, t, O', P', hk, rfl, hdp⟩ := hrel
        have D := Lib.hid hdp
        have HB := Lib.hid (HB1.out.trans (hdp.dk.below.mono HB1.out.size))
        clear hdp D4 HB4
        by_cases hlt : k < len
        · obtain ⟨b, o, op, rfl, hop, ⟨e0, e1, e2, e3, e4, e5⟩, hin⟩ := HO.out.at_later HB.out hlt
          have DO := Lib.hid (D.out.do_ op hin HB1.out.size)
          unfold opVal at DO
          have AT := Lib.hid (fun (x : World) (hx : Below w0.heap.size w0 x) => HO.out.at_later hx hlt)
          have HOP := Lib.hid hop
          clear hin hop
          go_wp2_with fail
          refine DO.out.mono ?_
          rintro e wa ⟨rfl, Oa, da, ba⟩
          have DA := Lib.hid da
          have HBa := Lib.hid (HB.out.trans (ba.mono HB1.out.size))
          clear da ba DO e0 e1 e2 e3 e4 e5 D
          obtain ⟨b', o', op', e', hop', ⟨e0, e1, e2, e3, e4, e5⟩, hin⟩ := AT.out wa HBa.out
          injection e' with e'
          injection e' with e1' e2'
          subst e1' e2'
          have hoo : op' = op := by have h1 := hop'.symm.trans HOP.out; injection h1
          subst hoo
          have PL := Lib.hid (DA.out.plain op' hin HB1.out.size)
          unfold opVal at PL
          clear hin hop'
          go_wp2_with fail
          refine PL.out.mono ?_
          rintro e wb ⟨rfl, Pb, db, bb⟩
          have DB := Lib.hid db
          have HBb := Lib.hid (HBa.out.trans (bb.mono HB1.out.size))
          clear db bb PL DA e0 e1 e2 e3 e4 e5
          generalize t.do_ op' = r at *
          obtain ⟨BS, IS, L, T, S, htell⟩ := DB.out.tells nm hnm
          have TL := Lib.hid htell
          clear htell
          obtain ⟨bl, hbl⟩ : ∃ bl, bl = BS.length := ⟨_, rfl⟩
          have R1 := Lib.hid (TL.out.read1 _ _ _ DB.out)
          rw [← hbl] at R1
          have RR2 := Lib.hid (fun x O P hx => TL.out.read2 x O P hx)
          rw [← hbl] at RR2
          clear hbl
          go_wp2_with fail
          refine R1.out.mono ?_
          rintro e wc ⟨xa, xc, rfl, sx, dc, bc⟩
          have DC := Lib.hid dc
          have SX := Lib.hid sx
          clear R1 sx dc bc
          have R2 := Lib.hid (RR2.out _ _ _ DC.out)
          go_wp2_with fail
          refine R2.out.mono ?_
          rintro e wd ⟨ya, yc, rfl, sy, dd, bd⟩
          have DD := Lib.hid dd
          have SY := Lib.hid (And.intro ((SX.out.below bd (Nat.le_refl _)).more bd.size) sy)
          have p1 := run_str (P := Try.prog) SY.out.1 31 5 9 Try.underlying31 Try.underlying5 Try.underlying9
          have p2 := run_str (P := Try.prog) SY.out.2 31 5 9 Try.underlying31 Try.underlying5 Try.underlying9
          clear R2 RR2 SX sy dd bd
          obtain ⟨ll, hll⟩ : ∃ ll, ll = L.length := ⟨_, rfl⟩
          have L1 := Lib.hid (TL.out.list1 _ _ _ DD.out)
          rw [← hll] at L1
          have LL2 := Lib.hid (fun x O P hx => TL.out.list2 x O P hx)
          rw [← hll] at LL2
          have SS := Lib.hid (sameStr_any L)
          rw [← hll] at SS
          clear hll
          go_wp2_with fail
          refine L1.out.mono ?_
          rintro e we ⟨ga, gc, rfl, rx, de, be⟩
          have DE := Lib.hid de
          have RX := Lib.hid rx
          clear L1 rx de be p1 p2
          have L2 := Lib.hid (LL2.out _ _ _ DE.out)
          go_wp2_with fail
          refine L2.out.mono ?_
          rintro e wf ⟨ha, hc, rfl, ry, df, bf⟩
          have DF := Lib.hid df
          have S1 := Lib.hid (SS.out ga ha gc hc wf ((RX.out.below bf (Nat.le_refl _)).more bf.size) ry)
          clear L2 LL2 ry df bf RX SS
          go_wp2_with fail
          refine S1.out.mono ?_
          rintro e wg ⟨rfl, bg⟩
          have DG := Lib.hid (DF.out.on bg)
          have U1 := Lib.hid (TL.out.used1 _ _ _ DG.out)
          clear S1 bg
          go_wp2_with fail
          refine U1.out.mono ?_
          rintro e wh ⟨rfl, dh, bh⟩
          have DH := Lib.hid dh
          have U2 := Lib.hid (TL.out.used2 _ _ _ DH.out)
          clear U1 dh bh
          go_wp2_with fail
          refine U2.out.mono ?_
          rintro e wi ⟨rfl, di, bi⟩
          have DI := Lib.hid di
          have Y1 := Lib.hid (TL.out.synced1 _ _ _ DI.out)
          clear U2 di bi
          go_wp2_with fail
          refine Y1.out.mono ?_
          rintro e wj ⟨rfl, dj, bj⟩
          have DJ := Lib.hid dj
          have Y2 := Lib.hid (TL.out.synced2 _ _ _ DJ.out)
          clear Y1 dj bj
          go_wp2_with fail
          refine Y2.out.mono ?_
          rintro e wk ⟨rfl, dk, bk⟩
          have DK' := Lib.hid dk
          clear Y2 dk bk
          go_wp2
          go_roundw
          case rel => exact ⟨k + 1, r.2, Oa, Pb, by omega, by go_num, DK'.out⟩
          case measure => simp [intOf]; omega
        · have hkl : ¬ (k : Int) < (len : Int) := by omega
          obtain ⟨BS, IS, L, T, S, htell⟩ := D.out.tells nm hnm
          have TL := Lib.hid htell
          clear htell
          obtain ⟨bl, hbl⟩ : ∃ bl, bl = BS.length := ⟨_, rfl⟩
          have R1 := Lib.hid (TL.out.read1 _ _ _ D.out)
          rw [← hbl] at R1
          have RR2 := Lib.hid (fun x O P hx => TL.out.read2 x O P hx)
          rw [← hbl] at RR2
          clear hbl
          go_wp2_with fail
          refine R1.out.mono ?_
          rintro e wc ⟨xa, xc, rfl, sx, dc, bc⟩
          have DC := Lib.hid dc
          have SX := Lib.hid sx
          clear R1 sx dc bc
          have R2 := Lib.hid (RR2.out _ _ _ DC.out)
          go_wp2_with fail
          refine R2.out.mono ?_
          rintro e wd ⟨ya, yc, rfl, sy, dd, bd⟩
          have DD := Lib.hid dd
          have SY := Lib.hid (And.intro ((SX.out.below bd (Nat.le_refl _)).more bd.size) sy)
          have p1 := run_str (P := Try.prog) SY.out.1 31 5 9 Try.underlying31 Try.underlying5 Try.underlying9
          have p2 := run_str (P := Try.prog) SY.out.2 31 5 9 Try.underlying31 Try.underlying5 Try.underlying9
          clear R2 RR2 SX sy dd bd
          have HZ := Lib.hid (HB1.out.trans (DD.out.dk.below.mono HB1.out.size))
          go_wp2
          go_ret
          exact ⟨rfl, HZ.out⟩
    · go_wp2
      go_ret
      exact ⟨rfl, HB4.out⟩
  · go_enter Try.func3, Try.ntmps3
    go_wp2_with fail
    refine HD.out.mono ?_
    rintro e w1 ⟨rfl, hb1⟩
    have HB1 := Lib.hid hb1
    clear hb1 HD
    go_wp2_with fail
    refine (new_no room hr w1).mono ?_
    rintro e w2 ⟨rfl, rfl⟩
    go_wp2_with fail
    refine (rnew_no room hr w1).mono ?_
    rintro e w2 ⟨rfl, rfl⟩
    go_wp2
    go_ret
    exact ⟨rfl, HB1.out⟩
end Go.Proofs.Ytohiheohndmccaa
