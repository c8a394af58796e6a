/- SeglogOpens: the walk. -/
import Derived.Test.YtamblmoedommfaaGreatDoorSqa
import Derived.Test.YtamblmoedommfaaGreatDoorSqb
import Derived.Test.YtamblmoedommfaaGreatDoorSqc
import Derived.Test.YtamblmoedommfaaGreatDoorSqd
import Derived.Test.YtamblmoedommfaaGreatDoorSqe
import Derived.Test.YtamblmoedommfaaGreatDoorSqf
import Derived.Test.YtamblmoedommfaaGreatDoorSqg
import Derived.Test.YtamblmoedommfaaGreatDoorSqh
import Derived.Test.YtamblmoedommfaaGreatDoorSqi
import Derived.Test.YtamblmoedommfaaGreatDoorSqj
import Derived.Test.YtamblmoedommfaaGreatDoorSqk
import Derived.Test.YtamblmoedommfaaGreatDoorSqxb
namespace Go.Proofs.YtamblmoedommfaaGreatDoor
set_option maxRecDepth 100000
set_option maxHeartbeats 40000000
set_option linter.unusedVariables false
set_option linter.unusedSimpArgs false
set_option linter.unusedSectionVars false
open Go.RowKit Go.Sort
open Go.Maps
open Crc Frm
attribute [local go_sem] Oper.semAt_some
theorem rframes_got {w0 w : World} {rp lp size : Nat} {g : Lg} {t : St} {D : Nat → Prop} {sa : Option Addr} {sc : Nat} (h : RLK w0 w rp lp size g t D sa sc) (hlen : g.segs.length ≤ 100) {fs : List Fr} (hf : lgFrames g t = fs) : Calls Tryz.prog 16 #[.pointer (some ⟨lp, 0, none⟩)] w (GotF w fs) :=
 (rlframes_any h hlen).mono fun e w' ⟨v, ts, he, ho, hts, hb, hB⟩ => by
  obtain ⟨a, cap, hv, hF⟩ := FrF.of ho hB
  rw [hts, hf] at hF
  have hl : ts.length = fs.length := by rw [← hf, ← hts, List.length_map]
  rw [hl] at hF hv
  exact ⟨a, cap, by rw [he, hv], hF, hb⟩
theorem seglogOpens_walk (room size : Int) (a : Option Addr) (len cap : Nat) (l : List OpV) (w0 : World) (hL : Laid w0) (ho : OpsIn w0 w0.heap.size a len cap l) (hlz : len ≤ 140737488351232) :
 Calls Tryz.prog 4 #[.int .i64 room, .int .i64 size, .slice a len cap] w0 fun e w' => e = .returned (.bool true) ∧ Below w0.heap.size w0 w' := by
 have HD := Qh (head6_any w0 hL)
 have hle := ho.le
 have HO := Qh ho
 clear ho
 by_cases hr : 0 ≤ room ∧ room ≤ 1048576
 · obtain ⟨n, rfl⟩ := Int.eq_ofNat_of_zero_le hr.1
   have hn : n ≤ 1048576 := by omega
   go_enter Tryz.func4, Tryz.ntmps4
   go_wp2_with fail
   refine HD.out.mono ?_
   rintro e w1 ⟨rfl, hb1⟩
   have N1 := Qh (DK.new n hn w1)
   have HB1 := Qh hb1
   have L1 := Qh (hL.on hb1)
   clear hb1 HD hL
   go_wp2_with fail
   refine N1.out.mono ?_
   rintro e w2 ⟨dp, O, rfl, hk, hb2, hO2⟩
   have N2 := Qh (RK.new n hn w2)
   have K2 := Qh (Qa hk (Qa hb2 hO2))
   clear hk hb2 hO2 N1
   go_wp2_with fail
   refine N2.out.mono ?_
   rintro e w3 ⟨rp, P, rfl, hk, hb3, hP3⟩
   have hz12 := K2.out.2.1.size
   have D3 := Qh (show DP w1 w3 dp rp ⟨.map [], n, -1, 0⟩ ⟨.map [], n, -1, 0⟩ O P from ⟨K2.out.1.on hb3, ⟨hk.is, fun k hp => Nat.le_trans hz12 (hk.base k hp), K2.out.2.1.trans (hb3.mono hz12)⟩, fun k ho hp => by have := K2.out.1.lt k ho; have := hP3 k hp; omega⟩)
   have HB3 := Qh (HB1.out.trans (D3.out.dk.below.mono HB1.out.size))
   clear hk hb3 hP3 N2 K2
   have GR := Qh (great_any a len cap l w3 ((HO.out.below HB3.out Qn) |> fun h => ⟨h.length, h.le, h.max, fun hp => by obtain ⟨b, o, e, hlt, hc⟩ := h.at_ hp; exact ⟨b, o, e, Nat.lt_of_lt_of_le hlt HB3.out.size, fun k op hop => ⟨(hc k op hop).1, (hc k op hop).2.below (Below.refl w3.heap.size w3) HB3.out.size⟩⟩⟩) hlz)
   go_wp2_with fail
   refine GR.out.mono ?_
   rintro e w4 ⟨g, rfl, hg, hb4⟩
   have D4 := Qh (D3.out.on hb4)
   have HB4 := Qh (HB3.out.trans (hb4.mono HB3.out.size))
   clear hb4 hg GR D3 HB3
   cases g
   · by_cases h60 : (60 : Int) < (len : Int)
     · go_wp2
       go_ret
       exact ⟨rfl, HB4.out⟩
     have h60' : (len : Int) ≤ 60 := by omega
     go_wp2_with fail
     go_loopw [10] (fun i wr => ∃ (k : Nat) (t : St) (O' P' : Nat → Prop), k ≤ len ∧ i = .int .i64 (k : Int) ∧ DP w1 wr dp rp t t O' P') (fun i _ => len - (intOf i).toNat)
     case atStart => exact ⟨0, _, O, P, Nat.zero_le _, rfl, D4.out⟩
     case round =>
      obtain ⟨k, t, O', P', hk, rfl, hdp⟩ := hrel
      have D := Qh hdp
      have HB := Qh (HB1.out.trans (hdp.dk.below.mono HB1.out.size))
      clear hdp D4 HB4
      by_cases hlt : k < len
      · obtain ⟨b, o, op, rfl, hop, ⟨e0, e1, e2, e3, e4, e5⟩, hin⟩ := HO.out.at_later HB.out hlt
        have DD := Qh (D.out.on (Below.drew (Below.refl wr.heap.size wr)))
        have HBD := Qh (HB1.out.trans (DD.out.dk.below.mono HB1.out.size))
        have AT := Qh (fun (x : World) (hx : Below w0.heap.size w0 x) => HO.out.at_later hx hlt)
        have HOP := Qh hop
        have hbl := block_lt_of_cell e0
        have FX := Qh (fun (x : World) (hx : Below w0.heap.size w0 x) => show (x.cell? ⟨b, o + k * 6, none⟩ = some (.int .i64 op.what) ∧ x.cell? ⟨b, o + k * 6 + 1, none⟩ = some (.string op.nm) ∧ x.cell? ⟨b, o + k * 6 + 2, none⟩ = some (.string op.to_) ∧ x.cell? ⟨b, o + k * 6 + 3, none⟩ = some (.slice op.ba op.bs.length op.bc) ∧ x.cell? ⟨b, o + k * 6 + 4, none⟩ = some (.int .i64 op.n) ∧ x.cell? ⟨b, o + k * 6 + 5, none⟩ = some (.slice op.ka op.ks.length op.kc)) ∧ OpIn x w0.heap.size op by
         obtain ⟨b', o', op', e', hop', ⟨f0, f1, f2, f3, f4, f5⟩, hin'⟩ := AT.out x hx
         injection e' with e'
         injection e' with e1' e2'
         subst e1' e2'
         have hoo : op' = op := by have h1 := hop'.symm.trans HOP.out; injection h1
         subst hoo
         exact ⟨⟨f0, f1, f2, f3, f4, f5⟩, hin'⟩)
        have DO := Qh (DD.out.do_ op (FX.out _ HBD.out).2 HB1.out.size)
        unfold opVal at DO
        have hlt' : (k : Int) < (len : Int) := by omega
        have hk0 : (0 : Int) ≤ (k : Int) := by omega
        have F0 := (FX.out _ HBD.out).1
        clear hin hop e0 e1 e2 e3 e4 e5 hbl hlt
        have HLT := Qh hlt'
        go_upto_region 1 with fail
        refine wp_region_held_drew (S := fun x => x.cell? ⟨b, o + k * 6, none⟩ = some (.int .i64 op.what) ∧ x.cell? ⟨b, o + k * 6 + 1, none⟩ = some (.string op.nm) ∧ x.cell? ⟨b, o + k * 6 + 2, none⟩ = some (.string op.to_) ∧ x.cell? ⟨b, o + k * 6 + 3, none⟩ = some (.slice op.ba op.bs.length op.bc) ∧ x.cell? ⟨b, o + k * 6 + 4, none⟩ = some (.int .i64 op.n) ∧ x.cell? ⟨b, o + k * 6 + 5, none⟩ = some (.slice op.ka op.ks.length op.kc)) (by kernel_rfl) F0 (fun hHeld => ?_)
        clear hHeld
        refine qi 0 (by assumption) ?_
        iterate 5 (refine qk rfl (by kernel_rfl) (fun _ _ _ h => h) (by intro w hSw; (try dsimp only at hSw); go_simp; all_goals with_reducible rfl) (by (try simp only [Act.put, lz]); rfl) ?_)
        refine qo (qi 6 (by assumption) ?_)
        iterate 5 (refine qk rfl (by kernel_rfl) (fun _ _ _ h => h) (by intro w hSw; (try dsimp only at hSw); go_simp; all_goals with_reducible rfl) (by (try simp only [Act.put, lz]); rfl) ?_)
        refine qo ?_
        refine qr 5 rfl (by kernel_rfl) (fun K hK => ?_)
        rw [if_pos (by rfl)]
        go_simp
        go_at_call 23
        refine DO.out.mono ?_
        rintro e wa ⟨rfl, Oa, da, ba⟩
        have DA := Qh da
        have HBa := Qh (HBD.out.trans (ba.mono HB1.out.size))
        clear da ba DO
        refine hK.out _ _ ?_ (fun hHeld => ?_)
        · exact (FX.out _ HBa.out).1
        clear hK K
        try simp only [Act.put, lz]
        have PL := Qh (DA.out.plain op (FX.out _ HBa.out).2 HB1.out.size)
        unfold opVal at PL
        refine qr 11 rfl (by kernel_rfl) (fun K hK => ?_)
        rw [if_pos (by rfl)]
        go_simp
        go_at_call 24
        refine PL.out.mono ?_
        rintro e wb ⟨rfl, Pb, db, bb⟩
        have DB := Qh db
        have HBb := Qh (HBa.out.trans (bb.mono HB1.out.size))
        clear db bb PL
        refine hK.out _ _ ?_ (fun hHeld => ?_)
        · exact (FX.out _ HBb.out).1
        clear hK K
        try simp only [Act.put, lz]
        generalize t.do_ op = r at *
        refine qi 12 (by assumption) ?_
        refine qk rfl (by kernel_rfl) (fun _ _ _ h => h) (by intro w hSw; (try dsimp only at hSw); go_simp; all_goals with_reducible rfl) (by (try simp only [Act.put, lz]); rfl) ?_
        refine qo ?_
        refine wpAnyH_done (by kernel_rfl) ?_ _
        go_wp2
        go_roundw
        case rel => exact ⟨k + 1, r.2, Oa, Pb, by have := HLT.out; omega, by go_num, DB.out⟩
        case measure => have := HLT.out; simp [intOf]; omega
      have hkl : ¬ (k : Int) < (len : Int) := by omega
      have OP := Qh (D.out.open_ L1.out size)
      have RO := Qh (fun (w : World) (dp lp : Nat) (g : Lg) (n : Nat) (D : Nat → Prop) (sa : Option Addr) (sc : Nat) (P : Nat → Prop) (u : St) (k : LK w1 w dp lp n g u D sa sc) (hr : RK w1 w rp t P) (hno : ∀ k, lO D lp sa k → ¬ P k) (h64 : 64 ≤ n) (h65 : n ≤ 65536) (hz : size = (n : Int)) {g2 : Lg} (hn : (lgOpen size t).2.2 = some g2) => k.ropen hr hno h64 h65 hz hn)
      have RN := Qh (fun (w : World) (O P : Nat → Prop) (u : St) (h : DP w1 w dp rp u t O P) (hn : (lgOpen size t).2.2 = none) => h.ropen size hn)
      clear hlt hk
      generalize lgOpen size t = r at *
      obtain ⟨r1, u, r3⟩ := r
      go_wp2_with fail
      refine OP.out.mono ?_
      rintro e w5 h5
      cases r3 with
      | none =>
       obtain ⟨rfl, O5, d5⟩ := h5
       have R5 := Qh (RN.out w5 O5 P' u d5 rfl)
       clear d5 OP RO RN
       go_wp2_with fail
       refine R5.out.mono ?_
       rintro e w6 ⟨rfl, P6, d6⟩
       have A6 := Qh (alike_any d6.dk d6.rk)
       have B6 := Qh (HB1.out.trans (d6.dk.below.mono HB1.out.size))
       clear d6 R5
       go_wp2_with fail
       refine A6.out.mono ?_
       rintro e w7 ⟨rfl, b7⟩
       have B7 := Qh (bel2_ B6.out b7)
       clear b7 A6 B6
       go_wp2
       go_ret
       exact ⟨rfl, B7.out⟩
      | some g =>
       obtain ⟨lp, D5, sa, sc, n5, hz, h64, h65, hfew, he, rfl, k5, rk5, no5⟩ := h5
       have he1 : r1 = 0 := he
       have R5 := Qh (RO.out w5 dp lp g n5 D5 sa sc P' u k5 rk5 no5 h64 h65 hz rfl)
       have HF := Qh hfew
       clear k5 rk5 no5 OP RO RN hz h64 h65 hfew he he1
       go_wp2_with fail
       refine R5.out.mono ?_
       rintro e w6 ⟨qp, E, sb, sd, rfl, k6⟩
       have K6 := Qh k6
       have A6 := Qh (alike_any k6.both.dk k6.both.rk)
       have B6 := Qh (HB1.out.trans (k6.both.dk.below.mono HB1.out.size))
       obtain ⟨fs, hfs⟩ : ∃ fs, lgFrames g u = fs := ⟨_, rfl⟩
       have F1 := Qh (fun x (hx : Below w6.heap.size w6 x) => frames_got (K6.out.on hx).lk L1.out (by have := HF.out; omega) hfs)
       have F2 := Qh (fun x (hx : Below w6.heap.size w6 x) => rframes_got (K6.out.on hx).rk (by have := HF.out; omega) hfs)
       have X1 := Qh (fun x (hx : Below w6.heap.size w6 x) => lgnext_any (K6.out.on hx).lk)
       have X2 := Qh (fun x (hx : Below w6.heap.size w6 x) => rlnext_any (K6.out.on hx).rk)
       clear k6 R5 hfs
       generalize g.next = nx at *
       go_wp2_with fail
       refine A6.out.mono ?_
       rintro e w7 ⟨rfl, b7⟩
       have B7 := Qh b7
       have G1 := Qh (F1.out w7 B7.out)
       clear b7 A6 F1
       go_wp2_with fail
       refine G1.out.mono ?_
       rintro e w8 ⟨a8, c8, rfl, f8, b8⟩
       have B8 := Qh (bel2_ B7.out b8)
       have G2 := Qh (F2.out w8 B8.out)
       have F8 := Qh f8
       clear f8 b8 G1 F2 B7
       obtain ⟨fl, hfl⟩ : ∃ fl, fl = fs.length := ⟨_, rfl⟩
       have HFL := Qh hfl
       rw [← hfl] at F8 ⊢
       have SM := Qh (fun (x : World) (b : Option Addr) (c1 c2 : Nat) (h1 : Frs x x.heap.size a8 fl c1 fs) (h2 : Frs x x.heap.size b fl c2 fs) => (same_any a8 fl c1 fs b fl c2 fs x h1 h2).mono (fun e w' hh => (show e = .returned (.bool true) ∧ Below x.heap.size x w' from ⟨hh.1.trans (by rw [decide_eq_true (rfl : fs = fs)]), hh.2⟩)))
       clear hfl
       go_wp2_with fail
       refine G2.out.mono ?_
       rintro e w9 ⟨a9, c9, rfl, f9, b9⟩
       rw [← HFL.out] at f9 ⊢
       have B9 := Qh (bel2_ B8.out b9)
       have G3 := Qh (SM.out w9 a9 c8 c9 (F8.out.on b9).frs f9.frs)
       clear f9 b9 G2 F8 SM B8
       go_wp2_with fail
       refine G3.out.mono ?_
       rintro e wa ⟨rfl, ba⟩
       have Ba := Qh (bel2_ B9.out ba)
       have Y1 := Qh (X1.out wa Ba.out)
       have Y2 := Qh (X2.out wa Ba.out)
       clear ba G3 B9 X1 X2
       go_wp2_with fail
       refine Y1.out.mono ?_
       rintro e wb ⟨rfl, hwb⟩
       obtain rfl := hwb.symm
       go_wp2_with fail
       refine Y2.out.mono ?_
       rintro e wb ⟨rfl, hwb⟩
       obtain rfl := hwb.symm
       have Bb := Qh (bel2_ B6.out Ba.out)
       go_wp2
       go_ret
       exact ⟨rfl, Bb.out⟩
   go_wp2
   go_ret
   exact ⟨rfl, HB4.out⟩
 go_enter Tryz.func4, Tryz.ntmps4
 go_wp2_with fail
 refine HD.out.mono ?_
 rintro e w1 ⟨rfl, hb1⟩
 have HB1 := Qh hb1
 clear hb1 HD
 go_wp2_with fail
 refine (new_no room hr w1).mono ?_
 rintro e w2 ⟨rfl, rfl⟩
 go_wp2_with fail
 refine (rnew_no room hr w1).mono ?_
 rintro e w2 ⟨rfl, rfl⟩
 go_wp2
 go_ret
 exact ⟨rfl, HB1.out⟩
end Go.Proofs.YtamblmoedommfaaGreatDoor
