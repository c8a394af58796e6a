/- SeglogPlays: the walk. -/
import Derived.Test.YtamblmoedommfaaGreatDoorSqa
import Derived.Test.YtamblmoedommfaaGreatDoorSqb
import Derived.Test.YtamblmoedommfaaGreatDoorSqc
import Derived.Test.YtamblmoedommfaaGreatDoorSqd
import Derived.Test.YtamblmoedommfaaGreatDoorSqe
import Derived.Test.YtamblmoedommfaaGreatDoorSqf
import Derived.Test.YtamblmoedommfaaGreatDoorSqg
import Derived.Test.YtamblmoedommfaaGreatDoorSqh
import Derived.Test.YtamblmoedommfaaGreatDoorSqi
import Derived.Test.YtamblmoedommfaaGreatDoorSqj
import Derived.Test.YtamblmoedommfaaGreatDoorSqk
import Derived.Test.YtamblmoedommfaaGreatDoorSqua
namespace Go.Proofs.YtamblmoedommfaaGreatDoor
set_option maxRecDepth 100000
set_option maxHeartbeats 40000000
set_option linter.unusedVariables false
set_option linter.unusedSimpArgs false
set_option linter.unusedSectionVars false
open Go.RowKit Go.Sort
open Go.Maps
open Crc Frm
attribute [local go_sem] Oper.semAt_some
theorem OgsIn.at_laterY {w w' : World} {B : Nat} {a : Option Addr} {len cap : Nat} {l : List OgV} (h : OgsIn w B a len cap l) {k : Nat} (hk : k < len) : ∃ b o op, a = some ⟨b, o, none⟩ ∧ ∀ w', Below B w w' →
 (w'.cell? ⟨b, o + k * 5, none⟩ = some (.int .i64 op.what) ∧ w'.cell? ⟨b, o + k * 5 + 1, none⟩ = some (.int .i64 op.kind) ∧ w'.cell? ⟨b, o + k * 5 + 2, none⟩ = some (.slice op.ba op.bs.length op.bc) ∧
  w'.cell? ⟨b, o + k * 5 + 3, none⟩ = some (.int .i64 op.n) ∧ w'.cell? ⟨b, o + k * 5 + 4, none⟩ = some (.slice op.ka op.ks.length op.kc)) ∧ OgIn w' B op := by
 obtain ⟨b, o, e, _, hc⟩ := h.at_ (by omega)
 have hl := h.length
 have hop : l[k]? = some (l[k]'(by omega)) := List.getElem?_eq_getElem (by omega)
 refine ⟨b, o, l[k]'(by omega), e, fun w' hb => ?_⟩
 obtain ⟨b', o', e', _, hc'⟩ := (h.below hb Qn).at_ (by omega)
 rw [e] at e'
 injection e' with e'
 injection e' with e1 e2
 subst e1 e2
 have h5 := (hc' k _ hop).1
 exact ⟨⟨h5 0 (by omega), h5 1 (by omega), h5 2 (by omega), h5 3 (by omega), h5 4 (by omega)⟩, (hc' k _ hop).2⟩
def PlyR (w1 : World) (dp rp n len : Nat) (x e y f i : Value) (wr : World) : Prop :=
 ∃ (k : Nat) (c : Int) (t : St) (o : Option Lg), k ≤ len ∧ i = .int .i64 (k : Int) ∧ e = .int .i64 c ∧ f = .int .i64 c ∧ BS w1 wr dp rp n t o x t o y ∧ ∀ g, o = some g → Nv g t
theorem seglogPlays_walk (room size : Int) (a : Option Addr) (len cap : Nat) (l : List OgV) (w0 : World) (hL : Laid w0) (ho : OgsIn w0 w0.heap.size a len cap l) :
 Calls Tryz.prog 3 #[.int .i64 room, .int .i64 size, .slice a len cap] w0 fun e w' => e = .returned (.bool true) ∧ Below w0.heap.size w0 w' := by
 have HD := Qh (head6_any w0 hL)
 have hle := ho.le
 have hmx := ho.max
 unfold maxLen at hmx
 have HO := Qh ho
 clear ho
 by_cases hr : 0 ≤ room ∧ room ≤ 1048576
 · obtain ⟨n, rfl⟩ := Int.eq_ofNat_of_zero_le hr.1
   have hn : n ≤ 1048576 := by omega
   go_enter Tryz.func3, Tryz.ntmps3
   go_wp2_with fail
   refine HD.out.mono ?_
   rintro e w1 ⟨rfl, hb1⟩
   have N1 := Qh (DK.new n hn w1)
   have HB1 := Qh hb1
   have L1 := Qh (hL.on hb1)
   clear hb1 HD hL
   go_wp2_with fail
   refine N1.out.mono ?_
   rintro e w2 ⟨dp, O, rfl, hk, hb2, hO2⟩
   have N2 := Qh (RK.new n hn w2)
   have K2 := Qh (Qa hk (Qa hb2 hO2))
   clear hk hb2 hO2 N1
   go_wp2_with fail
   refine N2.out.mono ?_
   rintro e w3 ⟨rp, P, rfl, hk, hb3, hP3⟩
   have hz12 := K2.out.2.1.size
   have D3 := Qh (show DP w1 w3 dp rp ⟨.map [], n, -1, 0⟩ ⟨.map [], n, -1, 0⟩ O P from ⟨K2.out.1.on hb3, ⟨hk.is, fun k hp => Nat.le_trans hz12 (hk.base k hp), K2.out.2.1.trans (hb3.mono hz12)⟩, fun k ho hp => by have := K2.out.1.lt k ho; have := hP3 k hp; omega⟩)
   have HB3 := Qh (HB1.out.trans (D3.out.dk.below.mono HB1.out.size))
   clear hk hb3 hP3 N2 K2
   have GR := Qh (great6_any a len cap l w3 ((HO.out.below HB3.out Qn) |> fun h => ⟨h.length, h.le, h.max, fun hp => by obtain ⟨b, o, e, hlt, hc⟩ := h.at_ hp; exact ⟨b, o, e, Nat.lt_of_lt_of_le hlt HB3.out.size, fun k op hop => ⟨(hc k op hop).1, (hc k op hop).2.below (Below.refl w3.heap.size w3) HB3.out.size⟩⟩⟩))
   go_wp2_with fail
   refine GR.out.mono ?_
   rintro e w4 ⟨g, rfl, hg, hb4⟩
   have D4 := Qh (D3.out.on hb4)
   have HB4 := Qh (HB3.out.trans (hb4.mono HB3.out.size))
   have HG := Qh hg
   clear hb4 hg GR D3 HB3
   cases g
   · have h120 := HG.out rfl
     clear HG
     obtain ⟨t0, ht0⟩ : ∃ t0 : St, t0 = ⟨.map [], n, -1, 0⟩ := ⟨_, rfl⟩
     rw [← ht0] at D4
     have OP := Qh (D4.out.open_ L1.out size)
     have RO := Qh (fun (w : World) (dp lp : Nat) (g : Lg) (n : Nat) (D : Nat → Prop) (sa : Option Addr) (sc : Nat) (P : Nat → Prop) (u : St) (k : LK w1 w dp lp n g u D sa sc) (hr : RK w1 w rp t0 P) (hno : ∀ k, lO D lp sa k → ¬ P k) (h64 : 64 ≤ n) (h65 : n ≤ 65536) (hz : size = (n : Int)) {g2 : Lg} (hn : (lgOpen size t0).2.2 = some g2) => k.ropen hr hno h64 h65 hz hn)
     have RN := Qh (fun (w : World) (O P : Nat → Prop) (u : St) (h : DP w1 w dp rp u t0 O P) (hn : (lgOpen size t0).2.2 = none) => h.ropen size hn)
     have DU := Qh (fun (g : Lg) (hs : (lgOpen size t0).2.2 = some g) => open_nv (size := size) (t := t0) (by rw [ht0]; exact ⟨[], rfl⟩) hs)
     clear ht0
     generalize lgOpen size t0 = r at *
     obtain ⟨r1, u, r3⟩ := r
     go_wp2_with fail
     refine OP.out.mono ?_
     rintro e w5 h5
     cases r3 with
     | none =>
      obtain ⟨rfl, O5, d5⟩ := h5
      have R5 := Qh (RN.out w5 O5 P u d5 rfl)
      clear d5 OP RO RN DU
      go_wp2_with fail
      refine R5.out.mono ?_
      rintro e w6 ⟨rfl, P6, d6⟩
      have HBS : Hid (BS w1 w6 dp rp 0 u none (.pointer none) u none (.pointer none)) := Qh ⟨_, _, ⟨rfl, d6.dk⟩, ⟨rfl, d6.rk⟩, d6.no⟩
      clear d6 R5 D4 HB4
      go_wp2_with fail
      go_loopw [10, 11, 12, 13, 14] (fun x e y f i wr => x = .pointer none ∧ e = .int .i64 r1 ∧ y = .pointer none ∧ f = .int .i64 r1 ∧ i = .int .i64 (0 : Int) ∧ wr = w6) (fun _ _ _ _ _ _ => 0)
      case atStart => exact ⟨rfl, rfl, rfl, rfl, rfl, rfl⟩
      case round =>
       obtain ⟨rfl, rfl, rfl, rfl, rfl, hwx⟩ := hrel
       obtain rfl := hwx.symm
       by_cases h0 : 0 < len
       · have d0 : decide ((0 : Int) < (len : Int)) = true := by simp; omega
         have AF := Qh (HBS.out.alike)
         have BF := Qh (HB1.out.trans (HBS.out.below.mono HB1.out.size))
         go_wp2_with fail
         refine AF.out.mono ?_
         rintro e wz ⟨rfl, bz⟩
         have BZ := Qh (bel2_ BF.out bz)
         clear bz AF BF
         go_wp2
         go_ret
         exact ⟨rfl, BZ.out⟩
       have d0 : decide ((0 : Int) < (len : Int)) = false := by simp; omega
       have AF := Qh (HBS.out.alike)
       have BF := Qh (HB1.out.trans (HBS.out.below.mono HB1.out.size))
       go_wp2_with fail
       refine AF.out.mono ?_
       rintro e wz ⟨rfl, bz⟩
       have BZ := Qh (bel2_ BF.out bz)
       clear bz AF BF
       go_wp2
       go_ret
       exact ⟨rfl, BZ.out⟩
     | some g =>
      obtain ⟨lp, D5, sa, sc, n5, hz, h64, h65, hfew, he, rfl, k5, rk5, no5⟩ := h5
      have he1 : r1 = 0 := he
      have R5 := Qh (RO.out w5 dp lp g n5 D5 sa sc P u k5 rk5 no5 h64 h65 hz rfl)
      have DU0 := Qh (DU.out g rfl)
      have H65 := Qh (Qa h64 h65)
      subst hz
      clear k5 rk5 no5 OP RO RN h64 h65 hfew he he1 DU D4 HB4
      go_wp2_with fail
      refine R5.out.mono ?_
      rintro e w6 ⟨qp, E, sb, sd, rfl, k6⟩
      have PL : Hid (PlyR w1 dp rp n5 len (.pointer (some ⟨lp, 0, none⟩)) (.int .i64 0) (.pointer (some ⟨qp, 0, none⟩)) (.int .i64 0) (.int .i64 (0 : Int)) w6) :=
       Qh ⟨0, 0, u, some g, Nat.zero_le _, rfl, rfl, rfl, ⟨_, _, ⟨lp, D5, sa, sc, rfl, k6.lk, rfl⟩, ⟨qp, E, sb, sd, rfl, k6.rk, rfl⟩, k6.no⟩, fun g' hg' => by injection hg' with hg'; subst hg'; exact DU0.out⟩
      clear k6 R5 DU0
      go_wp2_with fail
      go_loopw [10, 11, 12, 13, 14] (fun x e y f i wr => PlyR w1 dp rp n5 len x e y f i wr) (fun _ _ _ _ i _ => len - (intOf i).toNat)
      case atStart => exact PL.out
      case round =>
       obtain ⟨k, c, t, o, hk, rfl, rfl, rfl, hbs, hdu⟩ := hrel
       have HBS := Qh hbs
       have HB := Qh (HB1.out.trans (hbs.below.mono HB1.out.size))
       clear PL
       cases o with
       | none =>
        obtain ⟨rfl, rfl⟩ := hbs.nil_
        clear hbs hdu HB
        by_cases h0 : k < len
        · have d0 : decide ((k : Int) < (len : Int)) = true := by simp; omega
          have AF := Qh (HBS.out.alike)
          have BF := Qh (HB1.out.trans (HBS.out.below.mono HB1.out.size))
          go_wp2_with fail
          refine AF.out.mono ?_
          rintro e wz ⟨rfl, bz⟩
          have BZ := Qh (bel2_ BF.out bz)
          clear bz AF BF
          go_wp2
          go_ret
          exact ⟨rfl, BZ.out⟩
        have d0 : decide ((k : Int) < (len : Int)) = false := by simp; omega
        have AF := Qh (HBS.out.alike)
        have BF := Qh (HB1.out.trans (HBS.out.below.mono HB1.out.size))
        go_wp2_with fail
        refine AF.out.mono ?_
        rintro e wz ⟨rfl, bz⟩
        have BZ := Qh (bel2_ BF.out bz)
        clear bz AF BF
        go_wp2
        go_ret
        exact ⟨rfl, BZ.out⟩
       | some g1 =>
        have hd1 := hdu g1 rfl
        have HDU := Qh hd1
        obtain ⟨lq, qq, hx, hy, _⟩ := hbs.both L1.out (by have := hd1.few; omega)
        subst hx hy
        clear hbs hdu hd1
        by_cases hlt : k < len
        · have hlt' : (k : Int) < (len : Int) := by omega
          have hk0 : (0 : Int) ≤ (k : Int) := by omega
          obtain ⟨b, o2, op, rfl, hop⟩ := HO.out.at_laterY (w' := w0) hlt
          have AT := Qh hop
          have HK := Qh hlt
          obtain ⟨⟨e0, e1, e2, e3, e4⟩, hin⟩ := AT.out wr HB.out
          have DO := Qh (HBS.out.do_ HDU.out L1.out H65.out.1 H65.out.2 op hin HB1.out.size)
          have SD := Qh (fun hc => stp_nv HDU.out n5 op hc)
          unfold ogVal at DO
          have PN := Qh (fun (z : World) (x' : Value) (u' : St) (o' : Option Lg) (h : BS w1 z dp rp n5 u' o' x' t (some g1) (.pointer (some ⟨qq, 0, none⟩))) (hi : OgIn z w0.heap.size op) => h.plain HDU.out H65.out.1 H65.out.2 op hi HB1.out.size)
          unfold ogVal at PN
          clear hop hin hlt
          generalize stp n5 g1 t op = r at *
          obtain ⟨⟨r1a, r1b⟩, t2, o3⟩ := r
          go_wp2_with fail
          refine DO.out.mono ?_
          rintro e wa ⟨xa, rfl, h9, ba⟩
          have BA := Qh ba
          have SD2 := Qh (SD.out h9)
          have HBa := Qh (HB1.out.trans (ba.below.mono HB1.out.size))
          clear ba h9 SD DO HBS HDU e0 e1 e2 e3 e4 HB
          obtain ⟨⟨e0, e1, e2, e3, e4⟩, hin⟩ := AT.out wa HBa.out
          have PL := Qh (PN.out wa xa t2 o3 BA.out hin)
          clear hin PN
          go_wp2_with fail
          refine PL.out.mono ?_
          rintro e wb ⟨ya, rfl, bb⟩
          have BB := Qh bb
          have AL := Qh bb.alike
          clear bb PL BA HBa AT e0 e1 e2 e3 e4
          cases o3 with
          | none =>
           obtain ⟨rfl, rfl⟩ := BB.out.nil_
           clear SD2
           go_wp2_with fail
           refine AL.out.mono ?_
           rintro e wc ⟨rfl, bc⟩
           have BC := Qh (BB.out.on bc)
           clear bc AL BB
           go_wp2
           go_roundw
           case rel => exact ⟨k + 1, r1b, t2, none, HK.out, by go_num, rfl, rfl, BC.out, fun g hg => (by cases hg)⟩
           case measure => have := HK.out; simp [intOf]; omega
          | some g3 =>
           have hd3 := SD2.out g3 rfl
           have HD3 := Qh hd3
           obtain ⟨lr, qr, hx, hy, _⟩ := BB.out.both L1.out (by have := hd3.few; omega)
           subst hx hy
           clear hd3 SD2
           go_wp2_with fail
           refine AL.out.mono ?_
           rintro e wc ⟨rfl, bc⟩
           have BC := Qh (BB.out.on bc)
           clear bc AL BB
           obtain ⟨lr2, qr2, hx, hy, fs, nx, sg, hbo⟩ := BC.out.both L1.out (by have := HD3.out.few; omega)
           injection hx with hx
           injection hx with hx
           injection hx with hx _
           injection hy with hy
           injection hy with hy
           injection hy with hy _
           subst hx hy
           have BO := Qh hbo
           have K0 : Hid (Below wc.heap.size wc wc) := Below.refl _ _
           have G1 := Qh (BO.out.f1 wc K0.out)
           clear hbo
           go_wp2_with fail
           refine G1.out.mono ?_
           rintro e wd ⟨a8, c8, rfl, f8, b8⟩
           have K1 := Qh b8
           have G2 := Qh (BO.out.f2 wd K1.out)
           have F8 := Qh f8
           clear f8 b8 G1 K0
           obtain ⟨fl, hfl⟩ : ∃ fl, fl = fs.length := ⟨_, rfl⟩
           have HFL := Qh hfl
           rw [← hfl] at F8 ⊢
           have SM := Qh (fun (x : World) (b : Option Addr) (c1 c2 : Nat) (h1 : Frs x x.heap.size a8 fl c1 fs) (h2 : Frs x x.heap.size b fl c2 fs) => (same_any a8 fl c1 fs b fl c2 fs x h1 h2).mono (fun e w' hh => (show e = .returned (.bool true) ∧ Below x.heap.size x w' from ⟨hh.1.trans (by rw [decide_eq_true (rfl : fs = fs)]), hh.2⟩)))
           clear hfl
           go_wp2_with fail
           refine G2.out.mono ?_
           rintro e we ⟨a9, c9, rfl, f9, b9⟩
           rw [← HFL.out] at f9 ⊢
           have K2 := Qh (bel2_ K1.out b9)
           have G3 := Qh (SM.out we a9 c8 c9 (F8.out.on b9).frs f9.frs)
           clear f9 b9 G2 F8 SM K1
           go_wp2_with fail
           refine G3.out.mono ?_
           rintro e wf ⟨rfl, bf⟩
           have K3 := Qh (bel2_ K2.out bf)
           have Y1 := Qh (BO.out.n1 wf K3.out)
           have Y2 := Qh (BO.out.n2 wf K3.out)
           clear bf G3 K2
           go_wp2_with fail
           refine Y1.out.mono ?_
           rintro e wq ⟨rfl, hwb⟩
           obtain rfl := hwb.symm
           go_wp2_with fail
           refine Y2.out.mono ?_
           rintro e wq ⟨rfl, hwb⟩
           obtain rfl := hwb.symm
           have Z1 := Qh (BO.out.s1 wf K3.out)
           clear Y1 Y2
           go_wp2_with fail
           refine Z1.out.mono ?_
           rintro e wg ⟨a10, c10, rfl, r10, b10⟩
           have K4 := Qh (bel2_ K3.out b10)
           have Z2 := Qh (BO.out.s2 wg K4.out)
           have R10 := Qh r10
           clear r10 b10 Z1 K3
           obtain ⟨sl, hsl⟩ : ∃ sl, sl = sg.length := ⟨_, rfl⟩
           have HSL := Qh hsl
           rw [← hsl] at R10 ⊢
           have SI := Qh (fun (x : World) (b : Option Addr) (c1 c2 : Nat) (h1 : Row x x.heap.size a10 sl c1 1 (intsC sg)) (h2 : Row x x.heap.size b sl c2 1 (intsC sg)) => (rsame_any sg sg a10 b sl sl c1 c2 x h1 h2 HSL.out.symm HSL.out.symm).mono (fun e w' hh => (show e = .returned (.bool true) ∧ Below x.heap.size x w' from ⟨hh.1.trans (by rw [decide_eq_true (rfl : sg = sg)]), hh.2⟩)))
           clear hsl
           go_wp2_with fail
           refine Z2.out.mono ?_
           rintro e wh ⟨a11, c11, rfl, r11, b11⟩
           rw [← HSL.out] at r11 ⊢
           have K5 := Qh (bel2_ K4.out b11)
           have G4 := Qh (SI.out wh a11 c10 c11 ((R10.out.below b11 Qn).more b11.size) r11)
           clear r11 b11 Z2 R10 SI K4
           go_wp2_with fail
           refine G4.out.mono ?_
           rintro e wi ⟨rfl, bi⟩
           have BZ := Qh (BC.out.on (bel2_ K5.out bi))
           clear bi G4 K5 BC BO
           go_wp2
           go_roundw
           case rel => exact ⟨k + 1, c, t2, some g3, HK.out, by go_num, rfl, rfl, BZ.out, fun g hg => (by injection hg with hg; subst hg; exact HD3.out)⟩
           case measure => have := HK.out; simp [intOf]; omega
        have d0 : decide ((k : Int) < (len : Int)) = false := by simp; omega
        clear HDU HB
        have AF := Qh (HBS.out.alike)
        have BF := Qh (HB1.out.trans (HBS.out.below.mono HB1.out.size))
        go_wp2_with fail
        refine AF.out.mono ?_
        rintro e wz ⟨rfl, bz⟩
        have BZ := Qh (bel2_ BF.out bz)
        clear bz AF BF
        go_wp2
        go_ret
        exact ⟨rfl, BZ.out⟩
   go_wp2
   go_ret
   exact ⟨rfl, HB4.out⟩
 go_enter Tryz.func3, Tryz.ntmps3
 go_wp2_with fail
 refine HD.out.mono ?_
 rintro e w1 ⟨rfl, hb1⟩
 have HB1 := Qh hb1
 clear hb1 HD
 go_wp2_with fail
 refine (new_no room hr w1).mono ?_
 rintro e w2 ⟨rfl, rfl⟩
 go_wp2_with fail
 refine (rnew_no room hr w1).mono ?_
 rintro e w2 ⟨rfl, rfl⟩
 go_wp2
 go_ret
 exact ⟨rfl, HB1.out⟩
end Go.Proofs.YtamblmoedommfaaGreatDoor
