/- The document's log: recover. The document's log: Open. The document's log: Frames. The program's log: Retain, from what its Collect tells. A range over a function whose body changes memory: as LgR, w. A region that draws its order, inside a fence: what only rea. The program's log: what behind's closure tells: the names of. slices. The program's log: Retain. Contracts of the program's frame: write. -/
import Derived.Test.YtamblmoedommfaaGreatDoorSqa
import Derived.Test.YtamblmoedommfaaGreatDoorSqb
import Derived.Test.YtamblmoedommfaaGreatDoorSqe
import Derived.Test.YtamblmoedommfaaGreatDoorSqf
import Derived.Test.YtamblmoedommfaaGreatDoorSqg
import Derived.Test.YtamblmoedommfaaGreatDoorSqh
import Derived.Test.YtamblmoedommfaaGreatDoorSqi
import Derived.OrdersIn
import Derived.OrdersHeld
import Derived.StillTail
import Derived.Deep.RegionHeld
import Derived.RangeFuncBound
import Derived.RangeFuncCalls
import Derived.Shelf.Abstract
import Derived.OwnWalkIn
import Derived.TacticsInMore
import Derived.LoopNIn
import Derived.LoopIn
import Derived.Laws.AppendOwn
import Derived.Maps.Range
namespace Go.Proofs.YtamblmoedommfaaGreatDoor
set_option maxRecDepth 100000
set_option maxHeartbeats 40000000
set_option linter.unusedVariables false
set_option linter.unusedSimpArgs false
set_option linter.unusedSectionVars false
section
open Go.RowKit Go.Sort Go.Maps
open Crc Frm
open Sgn
attribute [local go_sem] Oper.semAt_some
section
variable {w0 w : World} {rp lp size : Nat} {g : Lg} {t : St} {D : Nat → Prop} {sa : Option Addr} {sc : Nat}
def lgRec (g : Lg) (torn : Option (List Nat)) (t : St) : Int × St :=
  thenSt (thenSt (thenSt (if g.segs.length = (mLoad t).1.length then (0, t) else mSwap t g.segs) (lgMend g torn)) (lgClean g)) (lgSync g)
theorem rlrec_any (h : RLK w0 w rp lp size g t D sa sc) (hne : g.segs ≠ []) (hlen : g.segs.length ≤ 1000) (hll : g.segs.length ≤ (mLoad t).1.length) {torn : Option (List Nat)} {bs : List Nat} {n : Nat} (htorn : TornIs torn bs n) (hbl : bs.length ≤ 1100000) (hnl : n ≤ 1100000)
    (a : Option Addr) (c : Nat) (hs : Sl w w.heap.size a bs.length c bs) (hfar : Far (rlO D lp sa) a bs.length) :
    Calls Tryz.prog 39 #[.pointer (some ⟨lp, 0, none⟩), .slice a bs.length c, .int .i64 (n : Int)] w fun e w' => e = .returned (.int .i64 (lgRec g torn t).1) ∧ RLv w0 w rp lp size (rlO D lp sa) g (lgRec g torn t).2 w' := by
  have hlp : 0 < g.segs.length := List.length_pos_iff.2 hne
  have LD := Qh (rload_any h.rk)
  have hmL := mLoad_len t
  obtain ⟨wn, hwn⟩ : ∃ wn, wn = (mLoad t).1.length := ⟨_, rfl⟩
  obtain ⟨r0, hr0⟩ : ∃ r0, r0 = if g.segs.length = (mLoad t).1.length then (0, t) else mSwap t g.segs := ⟨_, rfl⟩
  obtain ⟨r1, hr1⟩ : ∃ r1, r1 = thenSt r0 (lgMend g torn) := ⟨_, rfl⟩
  obtain ⟨r2, hr2⟩ : ∃ r2, r2 = thenSt r1 (lgClean g) := ⟨_, rfl⟩
  obtain ⟨r3, hr3⟩ : ∃ r3, r3 = thenSt r2 (lgSync g) := ⟨_, rfl⟩
  have hR : lgRec g torn t = r3 := by rw [hr3, hr2, hr1, hr0]; rfl
  rw [hR]
  rw [← hwn] at hr0 hll hmL
  have H := Qh h
  have HS := Qh (Qa hs hfar)
  have HT := Qh (Qa htorn (Qa hbl hnl))
  have HLN := Qh (Qa hlen (Qa hne hll))
  have R0 := Qh hr0
  have R1 := Qh hr1
  have R2 := Qh hr2
  have R3 := Qh hr3
  have HWN := Qh hwn
  have hsz := nmS_size (g.segs.getLastD 0)
  change ByteArray.size ⟨(lgLast g).toArray⟩ ≤ 11 at hsz
  have HZ := Qh hsz
  have hmx := hs.max
  have hle := hs.le
  unfold maxLen at hmx
  have c0 := h.at_.c0
  clear hR hr0 hr1 hr2 hr3 h hs hfar htorn hbl hnl hlen hne hwn hsz
  go_enter Tryz.func39, Tryz.ntmps39
  go_wp2_with fail
  refine LD.out.mono ?_
  rintro e w1 ⟨v, rfl, hv, b1⟩
  obtain ⟨va, vc, rfl, _, _⟩ := OwnV.out_ hv
  rw [← HWN.out]
  have B1 := Qh b1
  have K1 := Qh (H.out.on b1)
  have c01 := K1.out.at_.c0
  have c2 := K1.out.at_.c2
  clear b1 LD hv c0
  obtain ⟨b, o, hsa, hb, hc⟩ := K1.out.at_.row.at_ hlp
  subst hsa
  obtain ⟨m, hm⟩ : ∃ m, m = g.segs.length := ⟨_, rfl⟩
  obtain ⟨p, hp⟩ : ∃ p, p = m - 1 := ⟨_, rfl⟩
  have hvl : g.segs.getD p 0 = g.segs.getLastD 0 := by rw [getLastD_getD, hp, hm]
  have cm : w1.cell? ⟨b, o + p, none⟩ = some (.int .i64 (g.segs.getLastD 0)) := (hc p (by omega)).trans (by show some (Value.int .i64 (g.segs.getD p 0)) = _; rw [hvl])
  rw [← hm] at c2
  rw [← hm] at hlp
  have hrm := K1.out.at_.row.max
  have hrl := K1.out.at_.row.le
  unfold maxLen at hrm
  rw [← hm] at hrl
  have h0 : (0 : Int) ≤ (p : Int) := by omega
  have h1 : (p : Int) < (m : Int) := by omega
  have hw : IntKind.i64.wrap ((m : Int) - 1) = (p : Int) := by rw [IntKind.wrap_i64]; omega
  have NM := Qh (fun x => rsname_any (g.segs.getLastD 0) x)
  have hlg : Hid (lgLast g = nm (g.segs.getLastD 0)) := rfl
  have HM := Qh (Qa hm hlp)
  generalize g.segs.getLastD 0 = lv at *
  clear hc hvl hm hp hb hll
  go_upto_region 3 with fail
  refine wp_region_held_drew (S := fun x => x.cell? ⟨lp, 2, none⟩ = some (.slice (some ⟨b, o, none⟩) m sc) ∧ x.cell? ⟨b, o + p, none⟩ = some (.int .i64 lv) ∧ Below w1.heap.size w1 x) (by kernel_rfl) ⟨c2, cm, Below.drew Qb⟩ (fun hHeld => ?_)
  refine qi 0 (by assumption) ?_
  iterate 12 (refine qk rfl (by kernel_rfl) (fun _ _ _ h => h) (by intro w hSw; (try dsimp only at hSw); go_simp; all_goals with_reducible rfl) (by (try simp only [Act.put, lz]); rfl) ?_)
  refine qo ?_
  refine qr 12 rfl (by kernel_rfl) (fun K hK => ?_)
  rw [if_pos (by rfl)]
  go_simp
  go_at_call 56
  refine (NM.out _).mono ?_
  rintro e w2 ⟨rfl, hb2⟩
  have B2 : Below w1.heap.size w1 w2 := below_drew_of hb2
  clear hb2
  refine hK.out _ _ ?_ (fun hHeld => ?_)
  · exact ⟨(B2.cell (p := ⟨lp, 2, none⟩) (block_lt_of_cell c2)).trans c2, (B2.cell (p := ⟨b, o + p, none⟩) (block_lt_of_cell cm)).trans cm, B2⟩
  clear hK K
  try simp only [Act.put, lz]
  refine qi 13 (by assumption) ?_
  refine qk rfl (by kernel_rfl) (fun _ _ _ h => h) (by intro w hSw; (try dsimp only at hSw); go_simp; all_goals with_reducible rfl) (by (try simp only [Act.put, lz]); rfl) ?_
  refine qo ?_
  refine wpAnyH_done (by kernel_rfl) ?_ _
  rw [← hlg.out]
  have BB2 := Qh (B1.out.trans (B2.mono B1.out.size))
  have K2 := Qh (K1.out.on B2)
  have c22 := (B2.cell (p := ⟨lp, 2, none⟩) (block_lt_of_cell c2)).trans c2
  clear B2 B1 c2 cm c01 hlg hHeld h0 h1 hw NM hrm hrl K1
  go_upto_if 39 with fail
  go_cut [7] from 39 to 48 (fun v wx => RlJ w0 w (rlO D lp (some ⟨b, o, none⟩)) rp lp size g r0 v wx)
  case first =>
    by_cases hlt : m < wn
    · have hlt' : (m : Int) < (wn : Int) := by omega
      have e0 := Qh (R0.out.trans (if_neg (by have := HM.out.1; omega)))
      have K2d := Qh (K2.out.on (Below.drew Qb))
      have c0 := K2.out.at_.c0
      have SW := rswap5_any K2d.out.rk g.segs (some ⟨b, o, none⟩) g.segs.length sc K2d.out.at_.row rfl (fun _ k q e hd => (K2d.out.far k q e).1 hd)
      rw [← HM.out.1] at SW
      have SW := Qh SW
      clear hlt
      go_wp2_with fail
      refine wp_region_held_drew (S := fun x => x.cell? ⟨lp, 0, none⟩ = some (.pointer (some ⟨rp, 0, none⟩)) ∧ x.cell? ⟨lp, 2, none⟩ = some (.slice (some ⟨b, o, none⟩) m sc)) (by kernel_rfl) ⟨c0, c22⟩ (fun hHeld => ?_)
      refine qi 0 (by assumption) ?_
      iterate 8 (refine qk rfl (by kernel_rfl) (fun _ _ _ h => h) (by intro w hSw; (try dsimp only at hSw); go_simp; all_goals with_reducible rfl) (by (try simp only [Act.put, lz]); rfl) ?_)
      refine qo ?_
      refine qr 8 rfl (by kernel_rfl) (fun K hK => ?_)
      rw [if_pos (by rfl)]
      go_simp
      go_at_call 93
      refine SW.out.mono ?_
      rintro e w4 ⟨rfl, hm⟩
      have M := Qh (RLv.then (But.of_below (O := rlO D lp (some ⟨b, o, none⟩)) (BB2.out.trans ((Below.drew Qb).mono BB2.out.size))) (fun _ hk => .inl hk) (K2d.out.mv hm))
      obtain ⟨D4, k4, b4, o4⟩ := hm
      have K4 := Qh (K2d.out.but k4 b4 o4)
      have c24 := K4.out.at_.c2
      rw [← HM.out.1] at c24
      clear k4 b4 o4 SW hHeld
      refine hK.out _ _ ?_ (fun hHeld => ?_)
      · exact ⟨K4.out.at_.c0, c24⟩
      clear hK K
      try simp only [Act.put, lz]
      refine qi 9 (by assumption) ?_
      refine qk rfl (by kernel_rfl) (fun _ _ _ h => h) (by intro w hSw; (try dsimp only at hSw); go_simp; all_goals with_reducible rfl) (by (try simp only [Act.put, lz]); rfl) ?_
      refine qo ?_
      refine wpAnyH_done (by kernel_rfl) ?_ _
      go_wp2
      go_meet
      exact ⟨by rw [e0.out] <;> rfl, by rw [e0.out]; exact M.out⟩
    have hlt' : ¬ (m : Int) < (wn : Int) := by omega
    have e0 := Qh (R0.out.trans (if_pos (by have := HM.out.1; have := HLN.out.2.2; omega)))
    clear hlt
    go_wp2
    go_meet
    exact ⟨by rw [e0.out] <;> rfl, by rw [e0.out]; exact RLv.then (But.of_below BB2.out) (fun _ hk => .inl hk) (K2.out.still Qb)⟩
  case rest =>
  obtain ⟨rfl, hj⟩ := hcut
  generalize wc = w3 at *
  have J0 := Qh hj
  clear hj K2 c22 BB2
  by_cases h0 : r0.1 = 0
  · by_cases hn : n < bs.length
    · have hn' : (n : Int) < (bs.length : Int) := by omega
      have hb : (r0.1 == 0) = true := by simp [h0]
      have htn : torn = some (bs.take n) := by have h9 := HT.out.1; cases torn with
    | none => exact absurd h9 (by show ¬ bs.length ≤ n; omega)
    | some z => exact congrArg some h9.2
      have e1 : Hid (r1 = thenSt (thenSt (thenSt (r0.2.drop fxL) fun t => t.write fxL (bs.take n)) fun t => t.sync fxL) fun t => t.rename fxL (lgLast g)) := by show _ = _; rw [R1.out, then_zero h0, htn]; rfl
      obtain ⟨D1, sa1, sc1, k1, b1, o1⟩ := J0.out
      have sf := Sl.mv (O := rlO D lp (some ⟨b, o, none⟩)) (O' := rlO D1 lp sa1) HS.out b1 (fun k hk hn ho => by rcases o1 k ho with h4 | h4; exact hn h4; omega)
      have FX := rlfix_any k1 ⟨(lgLast g).toArray⟩ (by have := HZ.out; unfold maxLen; omega) a n c (bs.take n) (sf.1.take (by omega)) HT.out.2.2 (fun hp k q e => sf.2 (by omega) k q e)
      have K1 := Qh k1
      have B1 := Qh b1
      have O1 := Qh o1
      have FX := Qh FX
      have kcut : ∀ x, (Instr.slice 38 (.slice a bs.length c) none (some (.int .i64 (n : Int))) none).run Tryz.prog x = .ok (.slice a n c) x := run_cut_to (P := Tryz.prog) 38 5 Tryz.underlying38 info_u8 a bs.length c n (by omega)
      clear k1 b1 o1 sf h0 htn hn
      go_wp2_with fail
      refine FX.out.mono ?_
      rintro e wq ⟨rfl, hm⟩
      have J1 := Qh (RLv.then B1.out O1.out hm)
      have J1 : Hid (RLv w0 w rp lp size (rlO D lp (some ⟨b, o, none⟩)) g r1.2 wq) := by show RLv _ _ _ _ _ _ _ _ _; rw [e1.out]; exact J1.out
      have ev : (thenSt (thenSt (thenSt (r0.2.drop fxL) fun t => t.write fxL (bs.take n)) fun t => t.sync fxL) fun t => t.rename fxL (lgLast g)).1 = r1.1 := by rw [e1.out]
      rw [ev]
      clear hm ev FX
      go_upto_region 8 with fail
      clear hb
      go_upto_if 64 with fail
      go_cut [7] from 64 to 66 (fun v wx => RlJ w0 w (rlO D lp (some ⟨b, o, none⟩)) rp lp size g r2 v wx)
      case first =>
        by_cases h0 : r1.1 = 0
        · have hb : (r1.1 == 0) = true := by simp [h0]
          have e1 := Qh ((R2.out).trans (then_zero h0))
          obtain ⟨D1, sa1, sc1, k1, b1, o1⟩ := J1.out
          have c0 := k1.at_.c0
          have K1 := Qh k1
          have B1 := Qh b1
          have O1 := Qh o1
          have CT := Qh (rlorph_any k1 HLN.out.1)
          clear k1 b1 o1 h0
          go_wp2_with fail
          refine CT.out.mono ?_
          rintro e wq ⟨rfl, hm⟩
          have M := Qh (RLv.then B1.out O1.out (hm))
          clear hm CT c0
          go_wp2
          go_meet
          exact ⟨by rw [e1.out] <;> rfl, by rw [e1.out]; exact M.out⟩
        have hb : (r1.1 == 0) = false := by simp [h0]
        have e1 := Qh ((R2.out).trans (then_err h0))
        clear h0
        go_wp2
        go_meet
        exact ⟨by rw [e1.out], by rw [e1.out]; exact J1.out⟩
      case rest =>
      obtain ⟨rfl, hj⟩ := hcut
      generalize wc = w7 at *
      have J2 := Qh hj
      clear hj J1
      go_upto_if 68 with fail
      go_cut [7] from 68 to 74 (fun v wx => RlJ w0 w (rlO D lp (some ⟨b, o, none⟩)) rp lp size g r3 v wx)
      case first =>
        by_cases h0 : r2.1 = 0
        · have hb : (r2.1 == 0) = true := by simp [h0]
          have e1 := Qh ((R3.out).trans (then_zero h0))
          obtain ⟨D1, sa1, sc1, k1, b1, o1⟩ := J2.out
          have c0 := k1.at_.c0
          have K1 := Qh k1
          have B1 := Qh b1
          have O1 := Qh o1
          have CT := Qh (k1.rk.sync ⟨(lgLast g).toArray⟩)
          clear k1 b1 o1 h0
          go_wp2_with fail
          refine CT.out.mono ?_
          rintro e wq ⟨rfl, hm⟩
          have M := Qh (RLv.then B1.out O1.out (K1.out.mv hm))
          clear hm CT c0
          go_wp2
          go_meet
          exact ⟨by rw [e1.out] <;> rfl, by rw [e1.out]; exact M.out⟩
        have hb : (r2.1 == 0) = false := by simp [h0]
        have e1 := Qh ((R3.out).trans (then_err h0))
        clear h0
        go_wp2
        go_meet
        exact ⟨by rw [e1.out], by rw [e1.out]; exact J2.out⟩
      case rest =>
      obtain ⟨rfl, hj⟩ := hcut
      generalize wc = w8 at *
      have J3 := Qh hj
      clear hj J2
      go_wp2
      go_ret
      exact ⟨rfl, J3.out⟩
    · have hn' : ¬ (n : Int) < (bs.length : Int) := by omega
      have hb : (r0.1 == 0) = true := by simp [h0]
      have htn : torn = none := by have h9 := HT.out.1; cases torn with
    | none => rfl
    | some z => exact absurd h9.1 hn
      have e1 : r1 = r0 := by rw [R1.out, then_zero h0, htn]; exact Prod.ext h0.symm rfl
      have J1 : Hid (RLv w0 w rp lp size (rlO D lp (some ⟨b, o, none⟩)) g r1.2 w3) := by rw [e1]; exact J0.out
      have ev : r0.1 = r1.1 := by rw [e1]
      rw [ev] at hb ⊢
      clear h0 htn hn e1 ev
      go_upto_region 8 with fail
      clear hb
      go_upto_if 64 with fail
      go_cut [7] from 64 to 66 (fun v wx => RlJ w0 w (rlO D lp (some ⟨b, o, none⟩)) rp lp size g r2 v wx)
      case first =>
        by_cases h0 : r1.1 = 0
        · have hb : (r1.1 == 0) = true := by simp [h0]
          have e1 := Qh ((R2.out).trans (then_zero h0))
          obtain ⟨D1, sa1, sc1, k1, b1, o1⟩ := J1.out
          have c0 := k1.at_.c0
          have K1 := Qh k1
          have B1 := Qh b1
          have O1 := Qh o1
          have CT := Qh (rlorph_any k1 HLN.out.1)
          clear k1 b1 o1 h0
          go_wp2_with fail
          refine CT.out.mono ?_
          rintro e wq ⟨rfl, hm⟩
          have M := Qh (RLv.then B1.out O1.out (hm))
          clear hm CT c0
          go_wp2
          go_meet
          exact ⟨by rw [e1.out] <;> rfl, by rw [e1.out]; exact M.out⟩
        have hb : (r1.1 == 0) = false := by simp [h0]
        have e1 := Qh ((R2.out).trans (then_err h0))
        clear h0
        go_wp2
        go_meet
        exact ⟨by rw [e1.out], by rw [e1.out]; exact J1.out⟩
      case rest =>
      obtain ⟨rfl, hj⟩ := hcut
      generalize wc = w7 at *
      have J2 := Qh hj
      clear hj J1
      go_upto_if 68 with fail
      go_cut [7] from 68 to 74 (fun v wx => RlJ w0 w (rlO D lp (some ⟨b, o, none⟩)) rp lp size g r3 v wx)
      case first =>
        by_cases h0 : r2.1 = 0
        · have hb : (r2.1 == 0) = true := by simp [h0]
          have e1 := Qh ((R3.out).trans (then_zero h0))
          obtain ⟨D1, sa1, sc1, k1, b1, o1⟩ := J2.out
          have c0 := k1.at_.c0
          have K1 := Qh k1
          have B1 := Qh b1
          have O1 := Qh o1
          have CT := Qh (k1.rk.sync ⟨(lgLast g).toArray⟩)
          clear k1 b1 o1 h0
          go_wp2_with fail
          refine CT.out.mono ?_
          rintro e wq ⟨rfl, hm⟩
          have M := Qh (RLv.then B1.out O1.out (K1.out.mv hm))
          clear hm CT c0
          go_wp2
          go_meet
          exact ⟨by rw [e1.out] <;> rfl, by rw [e1.out]; exact M.out⟩
        have hb : (r2.1 == 0) = false := by simp [h0]
        have e1 := Qh ((R3.out).trans (then_err h0))
        clear h0
        go_wp2
        go_meet
        exact ⟨by rw [e1.out], by rw [e1.out]; exact J2.out⟩
      case rest =>
      obtain ⟨rfl, hj⟩ := hcut
      generalize wc = w8 at *
      have J3 := Qh hj
      clear hj J2
      go_wp2
      go_ret
      exact ⟨rfl, J3.out⟩
  have hb : (r0.1 == 0) = false := by simp [h0]
  have e1 : r1 = r0 := R1.out.trans (then_err h0)
  have J1 : Hid (RLv w0 w rp lp size (rlO D lp (some ⟨b, o, none⟩)) g r1.2 w3) := by rw [e1]; exact J0.out
  have ev : r0.1 = r1.1 := by rw [e1]
  rw [ev] at hb ⊢
  clear h0 e1 ev
  go_upto_region 8 with fail
  clear hb
  go_upto_if 64 with fail
  go_cut [7] from 64 to 66 (fun v wx => RlJ w0 w (rlO D lp (some ⟨b, o, none⟩)) rp lp size g r2 v wx)
  case first =>
    by_cases h0 : r1.1 = 0
    · have hb : (r1.1 == 0) = true := by simp [h0]
      have e1 := Qh ((R2.out).trans (then_zero h0))
      obtain ⟨D1, sa1, sc1, k1, b1, o1⟩ := J1.out
      have c0 := k1.at_.c0
      have K1 := Qh k1
      have B1 := Qh b1
      have O1 := Qh o1
      have CT := Qh (rlorph_any k1 HLN.out.1)
      clear k1 b1 o1 h0
      go_wp2_with fail
      refine CT.out.mono ?_
      rintro e wq ⟨rfl, hm⟩
      have M := Qh (RLv.then B1.out O1.out (hm))
      clear hm CT c0
      go_wp2
      go_meet
      exact ⟨by rw [e1.out] <;> rfl, by rw [e1.out]; exact M.out⟩
    have hb : (r1.1 == 0) = false := by simp [h0]
    have e1 := Qh ((R2.out).trans (then_err h0))
    clear h0
    go_wp2
    go_meet
    exact ⟨by rw [e1.out], by rw [e1.out]; exact J1.out⟩
  case rest =>
  obtain ⟨rfl, hj⟩ := hcut
  generalize wc = w7 at *
  have J2 := Qh hj
  clear hj J1
  go_upto_if 68 with fail
  go_cut [7] from 68 to 74 (fun v wx => RlJ w0 w (rlO D lp (some ⟨b, o, none⟩)) rp lp size g r3 v wx)
  case first =>
    by_cases h0 : r2.1 = 0
    · have hb : (r2.1 == 0) = true := by simp [h0]
      have e1 := Qh ((R3.out).trans (then_zero h0))
      obtain ⟨D1, sa1, sc1, k1, b1, o1⟩ := J2.out
      have c0 := k1.at_.c0
      have K1 := Qh k1
      have B1 := Qh b1
      have O1 := Qh o1
      have CT := Qh (k1.rk.sync ⟨(lgLast g).toArray⟩)
      clear k1 b1 o1 h0
      go_wp2_with fail
      refine CT.out.mono ?_
      rintro e wq ⟨rfl, hm⟩
      have M := Qh (RLv.then B1.out O1.out (K1.out.mv hm))
      clear hm CT c0
      go_wp2
      go_meet
      exact ⟨by rw [e1.out] <;> rfl, by rw [e1.out]; exact M.out⟩
    have hb : (r2.1 == 0) = false := by simp [h0]
    have e1 := Qh ((R3.out).trans (then_err h0))
    clear h0
    go_wp2
    go_meet
    exact ⟨by rw [e1.out], by rw [e1.out]; exact J2.out⟩
  case rest =>
  obtain ⟨rfl, hj⟩ := hcut
  generalize wc = w8 at *
  have J3 := Qh hj
  clear hj J2
  go_wp2
  go_ret
  exact ⟨rfl, J3.out⟩
end
end
section
open Go.RowKit Go.Sort Go.Maps
open Crc Frm
open Sgn
attribute [local go_sem] Oper.semAt_some
theorem lgFind_none (t : St) : ∀ (l : List Int) (g : Lg), (lgFind t l g).1.segs = [] → (lgFind t l g).1 = g
 | [], g, _ => by simp [lgFind]
 | x :: l, g, h => by
  by_cases hb : badAt t g x
  · rw [find_bad l hb]
  by_cases ht : (rd (t.bytes (nm x))).2.2.1 < (t.bytes (nm x)).length
  · rw [find_torn l hb ht] at h
    simp at h
  rw [find_on l hb ht] at h
  have := lgFind_none t l _ h
  rw [this] at h
  simp at h
theorem RLv.setNext {w0 W w' : World} {rp lp size : Nat} {O0 : Nat → Prop} {g : Lg} {t : St} (h : RLv w0 W rp lp size O0 g t w') (n : Int) : RLv w0 W rp lp size O0 { g with next := n } t (w'.setCell ⟨lp, 3, none⟩ (.int .i64 n)) := by
 obtain ⟨D', sa', sc', k, b, o⟩ := h
 exact ⟨D', sa', sc', k.setNext n, b.setCell (p := ⟨lp, 3, none⟩) (o lp (.inr (.inl rfl))) _, o⟩
theorem restore_none {t : St} {torn : Option (List Nat)} (hfd : lgFind t (mLoad t).1 ⟨[], 0⟩ = (⟨[], 0⟩, torn)) : lgRestore t = if (lgClean ⟨[], 0⟩ t).1 ≠ 0 then ((lgClean ⟨[], 0⟩ t).1, (lgClean ⟨[], 0⟩ t).2, ⟨[], 0⟩) else lgLay ⟨[], 0⟩ (lgClean ⟨[], 0⟩ t).2 0 := by
 unfold lgRestore
 simp only [hfd]
 rw [if_pos trivial]
theorem restore_some {t : St} {g : Lg} {torn : Option (List Nat)} (hfd : lgFind t (mLoad t).1 ⟨[], 0⟩ = (g, torn)) (h : g.segs ≠ []) : lgRestore t = ((lgRec g torn t).1, (lgRec g torn t).2, g) := by
 unfold lgRestore
 simp only [hfd]
 rw [if_neg h]
 rfl
def ROpenL (w0 w : World) (rp size : Nat) (O : Nat → Prop) (r : Int × St × Option Lg) (e : Ending) (w' : World) : Prop :=
 match r.2.2 with
 | none => e = .returned (.tuple #[.pointer none, .int .i64 r.1]) ∧ Mr w0 w rp O r.2.1 w'
 | some g => ∃ lp D' sa sc, e = .returned (.tuple #[.pointer (some ⟨lp, 0, none⟩), .int .i64 0]) ∧ RLK w0 w' rp lp size g r.2.1 D' sa sc ∧ But O w w' ∧ w.heap.size ≤ lp ∧ ∀ k, rlO D' lp sa k → O k ∨ w.heap.size ≤ k
section
variable {w0 w : World} {rp size : Nat} {t : St} {O : Nat → Prop}
theorem rlopen_any (h : RK w0 w rp t O) (h64 : 64 ≤ size) (h65 : size ≤ 65536) :
 Calls Tryz.prog 10 #[.pointer (some ⟨rp, 0, none⟩), .int .i64 (size : Int)] w (ROpenL w0 w rp size O (lgOpen size t)) := by
 have GD := Qh (rlgood_any h)
 have H := Qh h
 have hll := lgFind_len t (mLoad t).1 ⟨[], 0⟩
 have hl40 := mLoad_len t
 have hno := lgFind_none t (mLoad t).1 ⟨[], 0⟩
 obtain ⟨⟨⟨segs, next⟩, torn⟩, hfd⟩ : ∃ r, r = lgFind t (mLoad t).1 ⟨[], 0⟩ := ⟨_, rfl⟩
 rw [← hfd] at GD hll hno
 simp only [List.length_nil, Nat.zero_add] at hll hno
 have HFD := Qh hfd.symm
 have d1 : decide ((size : Int) < 64) = false := by simp; omega
 have d2 : decide ((65536 : Int) < (size : Int)) = false := by simp; omega
 have HSZ := Qh (Qa h64 h65)
 have HNO := Qh hno
 have HLL := Qh (Qa hll hl40)
 clear h hfd hno h64 h65 hll hl40
 go_enter Tryz.func10, Tryz.ntmps10
 go_wp2_with fail
 refine GD.out.mono ?_
 rintro e wg hg
 obtain ⟨oa, oc, ba, bc, bs, n, he, ho, hs, hba, bg, hbl, hnl, htn⟩ := hg
 simp only at he ho hba htn
 subst he
 obtain ⟨oa', oc', e1, hrow, _⟩ := OwnV.out_ ho
 injection e1 with e2 e3 e4
 subst e2 e4
 obtain ⟨lp, hlp⟩ : ∃ lp, lp = wg.heap.size := ⟨_, rfl⟩
 obtain ⟨wA, hwA⟩ : ∃ wA, wA = wg.alloc (.cells #[.pointer (some ⟨rp, 0, none⟩), .int .i64 (size : Int), .slice oa segs.length oc, .int .i64 next] 86) := ⟨_, rfl⟩
 have bA : Below wg.heap.size wg wA := by rw [hwA]; exact Qb.alloc Qn _
 have hAs : wA.heap.size = wg.heap.size + 1 := by rw [hwA]; simp
 have hwW := H.out.below.size
 have hfo : ∀ k o, oa = some ⟨k, o, none⟩ → w.heap.size ≤ k ∧ k < wg.heap.size := OwnV.far_ ho
 have KA : Hid (RLK w0 wA rp lp size ⟨segs, next⟩ t O oa oc) := ⟨(H.out.on bg).on bA, ⟨by rw [hwA, hlp]; exact heap_alloc_new _ _, (hrow.below bA Qn).more bA.size, fun e => by subst e; exact OwnV.nil_own ho _ _ rfl⟩, by rw [hlp]; exact Nat.le_trans hwW bg.size, fun hO => by have := H.out.lt lp hO; have := bg.size; omega,
  fun k o e => ⟨fun hO => by have := H.out.lt k hO; have := (hfo k o e).1; omega, by have := (hfo k o e).2; omega, Nat.le_trans hwW (hfo k o e).1, by have := (hfo k o e).2; omega⟩⟩
 have SA : Hid (Sl wA wA.heap.size ba bs.length bc bs ∧ Far (rlO O lp oa) ba bs.length) := ⟨(hs.below bA Qn).more bA.size, fun hp k o e hO => by
  obtain ⟨b', o', e', hlt, _⟩ := hs.at_ hp
  rw [e] at e'
  injection e' with e'
  injection e' with e'
  rcases hO with hO | hO | ⟨q, hO⟩
  · have := H.out.lt k hO; have := (hba k o e).1; omega
  · omega
  exact (hba k o e).2 (by rw [hO]; rfl)⟩
 have BA : Hid (Below w.heap.size w wA) := bg.trans (bA.mono bg.size)
 have OA : Hid (∀ k, rlO O lp oa k → O k ∨ w.heap.size ≤ k) := fun k hk => by
  rcases hk with hk | hk | ⟨q, hk⟩
  · exact .inl hk
  · right; have := bg.size; omega
  exact .inr (hfo k q hk).1
 have HTN := Qh (Qa htn (Qa hbl hnl))
 have HLP : Hid (w.heap.size ≤ lp) := by show _ ≤ _; have := bg.size; omega
 have HW := Qh hwA
 obtain ⟨R, hR⟩ : ∃ R, R = lgRestore t := ⟨_, rfl⟩
 have HR := Qh hR
 clear hR ho hs hba bg hbl hnl htn hrow bA hAs hfo GD hwA
 go_upto_if 33 with fail
 rw [← hlp, ← HW.out]
 clear hlp HW
 go_cut [11] from 33 to 46 (fun v wx => RlJ w0 wA (rlO O lp oa) rp lp size R.2.2 (R.1, R.2.1) v wx)
 case first =>
  by_cases hs : segs = []
  · have hn := HNO.out hs
    injection hn with _ hn
    subst hs hn
    obtain ⟨r0, hr0⟩ : ∃ r0, r0 = lgClean ⟨[], 0⟩ t := ⟨_, rfl⟩
    have rs := HR.out.trans (restore_none HFD.out)
    rw [← hr0] at rs
    have op := rlorph_any KA.out (by simp)
    rw [← hr0] at op
    have OP := Qh op
    have RS := Qh rs
    clear hr0 op rs
    go_wp2_with fail
    refine OP.out.mono ?_
    rintro e wq ⟨rfl, hm⟩
    by_cases h0 : r0.1 = 0
    · have hb : (r0.1 == 0) = true := by simp [h0]
      have e1 := Qh (RS.out.trans (if_neg (by simp [h0])))
      obtain ⟨D1, sa1, sc1, k1, b1, o1⟩ := hm
      have ly := rllay_any k1 0 (by simp)
      have ln := lgLay_next ⟨[], 0⟩ r0.2 0
      rw [← e1.out] at ly ln
      have LY := Qh ly
      have B1 := Qh b1
      have O1 := Qh o1
      have LN := Qh ln
      clear ly ln k1 b1 o1 h0 OP RS
      go_wp2_with fail
      refine LY.out.mono ?_
      rintro e wr ⟨rfl, hm⟩
      obtain ⟨D2, sa2, sc2, k2, b2, o2⟩ := RLv.then B1.out O1.out hm
      have K2 := Qh k2
      have M := Qh (show RLv w0 wA rp lp size (rlO O lp oa) R.2.2 R.2.1 wr from ⟨D2, sa2, sc2, k2, b2, o2⟩)
      have c3 := k2.at_.c3
      have z3 := k2.at_.z 3
      clear hm k2 b2 o2 LY
      go_wp2
      go_meet
      have E : { R.2.2 with next := 0 } = R.2.2 := by rw [← LN.out]
      exact ⟨by rw [e1.out] <;> rfl, by have h9 := M.out.setNext 0; rw [E] at h9; exact h9⟩
    have hb : (r0.1 == 0) = false := by simp [h0]
    have e1 := Qh (RS.out.trans (if_pos h0))
    have M := Qh hm
    obtain ⟨D2, sa2, sc2, k2, b2, o2⟩ := hm
    have c3 := k2.at_.c3
    have z3 := k2.at_.z 3
    clear k2 b2 o2 h0 OP RS
    go_wp2
    go_meet
    exact ⟨by rw [e1.out], by rw [e1.out]; exact M.out.setNext 0⟩
  have hb : ((segs.length : Int) == 0) = false := by simp [hs]
  have rs := HR.out.trans (restore_some HFD.out hs)
  have rc := rlrec_any KA.out hs (by have := HLL.out; show segs.length ≤ 1000; omega) HLL.out.1 HTN.out.1 HTN.out.2.1 HTN.out.2.2 ba bc SA.out.1 SA.out.2
  have RC := Qh rc
  have RS := Qh rs
  clear hs rc rs
  go_wp2_with fail
  refine RC.out.mono ?_
  rintro e wq ⟨rfl, hm⟩
  have M := Qh hm
  clear hm RC
  go_wp2
  go_meet
  exact ⟨by rw [RS.out], by rw [RS.out]; exact M.out⟩
 case rest =>
 obtain ⟨rfl, hj⟩ := hcut
 generalize wc = w3 at *
 obtain ⟨r0, hr0⟩ : ∃ r0, r0 = (R.1, R.2.1) := ⟨_, rfl⟩
 obtain ⟨r1, hr1⟩ : ∃ r1, r1 = thenSt r0 fun t => t.drop fxL := ⟨_, rfl⟩
 obtain ⟨r2, hr2⟩ : ∃ r2, r2 = thenSt r1 fun t => t.drop nxL := ⟨_, rfl⟩
 have ho : lgOpen size t = if r2.1 ≠ 0 then (r2.1, r2.2, none) else (0, r2.2, some R.2.2) := by unfold lgOpen; rw [if_neg (by have := HSZ.out; omega), ← HR.out, hr2, hr1, hr0]
 have HO := Qh ho
 clear ho
 rw [← hr0] at hj
 have J0 := Qh hj
 have R1 := Qh hr1
 have R2 := Qh hr2
 have ev : R.1 = r0.1 := by rw [hr0]
 rw [ev]
 clear hj hr1 hr2 hr0 ev KA SA HR HFD HNO HTN HLL
 go_upto_if 48 with fail
 go_cut [11] from 48 to 50 (fun v wx => RlJ w0 wA (rlO O lp oa) rp lp size R.2.2 r1 v wx)
 case first =>
  by_cases h0 : r0.1 = 0
  · have hb : (r0.1 == 0) = true := by simp [h0]
    have e1 := Qh ((R1.out).trans (then_zero h0))
    obtain ⟨D1, sa1, sc1, k1, b1, o1⟩ := J0.out
    have K1 := Qh k1
    have B1 := Qh b1
    have O1 := Qh o1
    have CT := Qh (rldrop_any k1 ⟨#[102, 105, 120, 46, 116, 109, 112]⟩)
    clear k1 b1 o1 h0
    go_wp2_with fail
    refine CT.out.mono ?_
    rintro e wq ⟨rfl, hm⟩
    have M := Qh (RLv.then B1.out O1.out (hm))
    clear hm CT
    go_wp2
    go_meet
    exact ⟨by rw [e1.out] <;> rfl, by rw [e1.out]; exact M.out⟩
  have hb : (r0.1 == 0) = false := by simp [h0]
  have e1 := Qh ((R1.out).trans (then_err h0))
  clear h0
  go_wp2
  go_meet
  exact ⟨by rw [e1.out], by rw [e1.out]; exact J0.out⟩
 case rest =>
 obtain ⟨rfl, hj⟩ := hcut
 generalize wc = w4 at *
 have J1 := Qh hj
 clear hj J0
 go_upto_if 52 with fail
 go_cut [11] from 52 to 54 (fun v wx => RlJ w0 wA (rlO O lp oa) rp lp size R.2.2 r2 v wx)
 case first =>
  by_cases h0 : r1.1 = 0
  · have hb : (r1.1 == 0) = true := by simp [h0]
    have e1 := Qh ((R2.out).trans (then_zero h0))
    obtain ⟨D1, sa1, sc1, k1, b1, o1⟩ := J1.out
    have K1 := Qh k1
    have B1 := Qh b1
    have O1 := Qh o1
    have CT := Qh (rldrop_any k1 ⟨#[109, 97, 110, 105, 102, 101, 115, 116, 46, 116, 109, 112]⟩)
    clear k1 b1 o1 h0
    go_wp2_with fail
    refine CT.out.mono ?_
    rintro e wq ⟨rfl, hm⟩
    have M := Qh (RLv.then B1.out O1.out (hm))
    clear hm CT
    go_wp2
    go_meet
    exact ⟨by rw [e1.out] <;> rfl, by rw [e1.out]; exact M.out⟩
  have hb : (r1.1 == 0) = false := by simp [h0]
  have e1 := Qh ((R2.out).trans (then_err h0))
  clear h0
  go_wp2
  go_meet
  exact ⟨by rw [e1.out], by rw [e1.out]; exact J1.out⟩
 case rest =>
 obtain ⟨rfl, hj⟩ := hcut
 generalize wc = w5 at *
 have J2 := Qh hj
 clear hj J1
 obtain ⟨D3, sa3, sc3, k3, b3, o3⟩ := J2.out
 have HB := Qh (Qa k3 (Qa (show But O w w5 from (But.of_below (O := O) BA.out).trans b3 (fun k hk => OA.out k hk)) (fun k hk => by
  rcases o3 k hk with h1 | h1
  · exact OA.out k h1
  exact .inr (Nat.le_trans BA.out.size h1) : ∀ k, rlO D3 lp sa3 k → O k ∨ w.heap.size ≤ k)))
 clear k3 b3 o3 J2
 by_cases h0 : r2.1 = 0
 · have hb : (r2.1 != 0) = false := by simp [h0]
   have hgo := HO.out
   rw [if_neg (by simp [h0])] at hgo
   have HG := Qh hgo
   clear hgo HO h0
   go_wp2
   go_ret2
   rw [HG.out]
   exact ⟨lp, D3, sa3, sc3, rfl, HB.out.1, HB.out.2.1, HLP.out, HB.out.2.2⟩
 have hb : (r2.1 != 0) = true := by simp [h0]
 have hgo := HO.out
 rw [if_pos h0] at hgo
 have HG := Qh hgo
 clear hgo HO h0
 go_wp2
 go_ret2
 rw [HG.out]
 exact ⟨rfl, D3, HB.out.1.rk, HB.out.2.1, fun k hk => HB.out.2.2 k (.inl hk)⟩
theorem rlopen_arg (h : RK w0 w rp t O) (s : Int) (hs : s < 64 ∨ 65536 < s) :
 Calls Tryz.prog 10 #[.pointer (some ⟨rp, 0, none⟩), .int .i64 s] w fun e w' => e = .returned (.tuple #[.pointer none, .int .i64 1]) ∧ w' = w := by
 by_cases h1 : s < 64
 · have d1 : decide (s < 64) = true := by simp [h1]
   go_enter Tryz.func10, Tryz.ntmps10
   go_wp2
   go_ret2
   exact ⟨rfl, rfl⟩
 have d1 : decide (s < 64) = false := by simp; omega
 have d2 : decide (65536 < s) = true := by simp; omega
 clear hs h1
 go_enter Tryz.func10, Tryz.ntmps10
 go_wp2
 go_ret2
 exact ⟨rfl, rfl⟩
end
end
section
open Go.RowKit Go.Sort Go.Maps
open Crc Frm
open Sgn
attribute [local go_sem] Oper.semAt_some
section
variable {w0 w : World} {rp lp size : Nat} {g : Lg} {t : St} {D : Nat → Prop} {sa : Option Addr} {sc : Nat}
theorem rlframes_any (h : RLK w0 w rp lp size g t D sa sc) (hlen : g.segs.length ≤ 100) :
 Calls Tryz.prog 16 #[.pointer (some ⟨lp, 0, none⟩)] w fun e w' => ∃ v ts, e = .returned v ∧ OwnF w' w.heap.size v ts ∧ ts.map (·.1) = lgFrames g t ∧ Below w.heap.size w w' ∧ BB w.heap.size ts := by
 have c2 := h.at_.c2
 have hrow := h.at_.row
 have H := Qh (Qa h trivial)
 obtain ⟨n, hn⟩ : ∃ n, n = g.segs.length := ⟨_, rfl⟩
 rw [← hn] at c2 hrow hlen
 have hrm := hrow.max
 have hrl := hrow.le
 unfold maxLen at hrm
 clear h
 go_enter Tryz.func16, Tryz.ntmps16
 go_wp2_with fail
 have c2H := Qh c2
 go_loopw [3, 4] (fun v i wr => ∃ (k : Nat) (ts : List FC) (au : Option Addr) (cu : Nat), k ≤ n ∧ i = .int .i64 (k : Int) ∧ v = .slice au ts.length cu ∧ OwnF wr w.heap.size (.slice au ts.length cu) ts ∧ ts.map (·.1) = lgFr t (g.segs.take k) ∧ ts.length ≤ k * 1100000 ∧ Below w.heap.size w wr ∧ BB w.heap.size ts) (fun _ i _ => n - (intOf i).toNat)
 case atStart => exact ⟨0, [], none, 0, Nat.zero_le _, rfl, rfl, OwnF.nil_ _ _, rfl, by simp, Below.refl _ _, fun t ht => by cases ht⟩
 case round =>
  obtain ⟨k, ts, au, cu, hk, rfl, rfl, ho, hts, htl, hB, hbb⟩ := hrel
  have hK := H.out.1.on hB
  have c2w := hK.at_.c2
  rw [← hn] at c2w
  clear c2
  by_cases hlt : k < n
  · have hrw := (hrow.below hB Qn).more hB.size
    obtain ⟨b, o, rfl, hb, hc⟩ := hrw.at_ (by omega)
    obtain ⟨x, hx⟩ : ∃ x, x = g.segs.getD k 0 := ⟨_, rfl⟩
    have cx : wr.cell? ⟨b, o + k, none⟩ = some (.int .i64 x) := (hc k (by omega)).trans (by rw [hx])
    have htk : g.segs.take (k + 1) = g.segs.take k ++ [x] := by
     rw [List.take_add_one, hx, List.getD_eq_getElem?_getD, List.getElem?_eq_getElem (by omega)]
     rfl
    have HT : Hid (lgFr t (g.segs.take (k + 1)) = lgFr t (g.segs.take k) ++ (rd (t.bytes (nm x))).2.1) := by
     show _ = _
     rw [htk, lgFr_snoc]
    have c0 := hK.at_.c0
    have hlt0 := hK.at_.lt
    have hbL : b < wr.heap.size := block_lt_of_cell cx
    have hlt' : (k : Int) < (n : Int) := by omega
    have hk0 : (0 : Int) ≤ (k : Int) := by omega
    have NM := Qh (fun y => rsname_any x y)
    have hby := Qh (fat_byte hK.rk.good (nm x))
    have hbl := bytes_le hK.rk.good (nm x)
    have HO := Qh (Qa ho (Qa hts (Qa hB (Qa hbb hK))))
    have hsz := nmS_size x
    clear ho hts hB hbb hK hrw hc hx htk hb
    go_upto_region 5 with fail
    refine wp_region_held_drew (S := fun x' => x'.cell? ⟨lp, 0, none⟩ = some (.pointer (some ⟨rp, 0, none⟩)) ∧ x'.cell? ⟨lp, 2, none⟩ = some (.slice (some ⟨b, o, none⟩) n sc) ∧ x'.cell? ⟨b, o + k, none⟩ = some (.int .i64 x)) (by kernel_rfl) ⟨c0, c2w, cx⟩ (fun hHeld => ?_)
    refine qi 0 (by assumption) ?_
    iterate 11 (refine qk rfl (by kernel_rfl) (fun _ _ _ h => h) (by intro w hSw; (try dsimp only at hSw); go_simp; all_goals with_reducible rfl) (by (try simp only [Act.put, lz]); rfl) ?_)
    refine qo ?_
    refine qr 11 rfl (by kernel_rfl) (fun K hK => ?_)
    rw [if_pos (by rfl)]
    go_simp
    go_at_call 56
    refine (NM.out _).mono ?_
    rintro e w2 ⟨rfl, hb2⟩
    have B2 : Below wr.heap.size wr w2 := below_drew_of hb2
    clear hb2
    have c02 := (B2.cell (p := ⟨lp, 0, none⟩) hlt0).trans c0
    have c22 := (B2.cell (p := ⟨lp, 2, none⟩) hlt0).trans c2w
    have cx2 := (B2.cell (p := ⟨b, o + k, none⟩) hbL).trans cx
    refine hK.out _ _ ?_ (fun hHeld => ?_)
    · exact ⟨c02, c22, cx2⟩
    clear hK K
    try simp only [Act.put, lz]
    refine qr 12 rfl (by kernel_rfl) (fun K hK => ?_)
    rw [if_pos (by rfl)]
    go_simp
    go_at_call 51
    refine ((HO.out.2.2.2.2.on B2).rk.read ⟨(nm x).toArray⟩).mono ?_
    rintro e w3 hN
    change NewBytes w2 (t.bytes (nm x)) (fat t.D (nm x)).isSome _ _ at hN
    obtain ⟨a3, n3, rfl, ob, b3⟩ := hN
    obtain ⟨a3', n3', e1, s3, _⟩ := ob.sl_base hby.out
    injection e1 with e2 e3 e4
    subst e2 e4
    change Sl w3 w3.heap.size a3 (t.bytes (nm x)).length n3 (t.bytes (nm x)) at s3
    generalize (fat t.D (nm x)).isSome = is at *
    have hrd := rd_many (t.bytes (nm x))
    generalize t.bytes (nm x) = bs at *
    have B3 := B2.trans (b3.mono B2.size)
    have RD := Qh (rsegRead_anyB a3 bs.length n3 bs w3 s3 (by omega))
    generalize rd bs = r at *
    clear s3 hby ob
    generalize bs.length = q at *
    refine hK.out _ _ ?_ (fun hHeld => ?_)
    · exact ⟨(b3.cell (p := ⟨lp, 0, none⟩) (Nat.lt_of_lt_of_le hlt0 B2.size)).trans c02, (b3.cell (p := ⟨lp, 2, none⟩) (Nat.lt_of_lt_of_le hlt0 B2.size)).trans c22, (b3.cell (p := ⟨b, o + k, none⟩) (Nat.lt_of_lt_of_le hbL B2.size)).trans cx2⟩
    clear hK K
    try simp only [Act.put, lz]
    refine qi 13 (by assumption) ?_
    iterate 5 (refine qk rfl (by kernel_rfl) (fun _ _ _ h => h) (by intro w hSw; (try dsimp only at hSw); go_simp; all_goals with_reducible rfl) (by (try simp only [Act.put, lz]); rfl) ?_)
    refine qo ?_
    refine wpAnyH_done (by kernel_rfl) ?_ _
    have H3 := Qh B3
    have hB3s := B3.size
    clear B3 B2 b3 c02 c0 c22 c2w cx2 hHeld NM cx
    go_wp2_with fail
    refine RD.out.mono ?_
    rintro e w4 ⟨v4, ts4, rfl, ho4, hts4, hb4, hbb4⟩
    have ho1 := (HO.out.1.below H3.out).below hb4
    have hl4 : ts4.length = r.2.1.length := by rw [← hts4, List.length_map]
    have hob : ∀ q, (Value.slice au ts.length cu).ownBlock = some q → q < wr.heap.size := fun q hq => (HO.out.1.at_base hq).2
    have H4 := Qh (Qa ho1 (Qa ho4 (Qa hts4 (Qa hb4 hbb4))))
    have hbn : ∀ t ∈ ts4, ∀ b o, t.2.1 = some ⟨b, o, none⟩ → some b ≠ (Value.slice au ts.length cu).ownBlock := fun t ht b o e h => by
     have h1 := hbb4 t ht b o e
     have h2 := hob b h.symm
     omega
    have HBN := Qh hbn
    have hww : w.heap.size ≤ w4.heap.size := Nat.le_trans HO.out.2.2.1.size (Nat.le_trans hB3s hb4.size)
    clear ho1 ho4 hts4 hb4 hbb4 hob hbn RD
    go_wp2_with (at_builtin; refine wpList_append_frs rfl (.tmp 43) (.tmp 44) rfl w.heap.size w3.heap.size (.slice au ts.length cu) v4 ts ts4 (by rfl) (by rfl) H4.out.1 H4.out.2.1 HBN.out (by omega) hww ?_; intro v5 w5 ho5 hg5 hat5)
    have hB5 : Below w.heap.size w w5 := ((HO.out.2.2.1.trans (H3.out.mono HO.out.2.2.1.size)).trans (H4.out.2.2.2.1.mono (Nat.le_trans HO.out.2.2.1.size hB3s))).grown hg5 hww (fun q hq => (HO.out.1.at_base hq).1)
    obtain ⟨a5, c5, hv5, _⟩ := ho5.frs
    subst hv5
    have H5 := Qh (Qa ho5 hB5)
    clear ho5 hg5 hat5 hB5
    go_wp2
    go_roundw
    case rel =>
     refine ⟨k + 1, ts ++ ts4, a5, c5, by omega, by go_num, rfl, H5.out.1, ?_, by rw [List.length_append]; omega, H5.out.2, fun t ht b o e => ?_⟩
     · rw [List.map_append, HO.out.2.1, H4.out.2.2.1, HT.out]
     rcases List.mem_append.1 ht with ht | ht
     · exact HO.out.2.2.2.1 t ht b o e
     exact Nat.le_trans HO.out.2.2.1.size (Nat.le_trans hB3s (H4.out.2.2.2.2 t ht b o e))
    case measure => simp [intOf]; omega
  have hkn : k = n := by omega
  subst hkn
  have HO := Qh (Qa ho (Qa hts (Qa hB hbb)))
  clear ho hts hB hbb hK
  go_wp2
  go_ret
  exact ⟨_, ts, rfl, HO.out.1, by rw [HO.out.2.1, hn, List.take_length]; rfl, HO.out.2.2⟩
end
end
section
open Go.RowKit Go.Sort Go.Maps Go.Shelf
open Crc Frm
open Sgn
attribute [local go_sem] Oper.semAt_some
theorem lgGone_lt {g : Lg} (hne : g.segs ≠ []) (seq : Int) : lgGone g seq < g.segs.length := by
 unfold lgGone
 have h1 := (List.takeWhile_prefix (p := fun x => decide (x ≤ seq)) (l := g.segs.tail)).length_le
 have h2 : 0 < g.segs.length := List.length_pos_iff.2 hne
 rw [List.length_tail] at h1
 omega
section
variable {w0 w : World} {dp lp size : Nat} {g : Lg} {t : St} {D : Nat → Prop} {sa : Option Addr} {sc : Nat}
theorem LK.setSegs (h : LK w0 w dp lp size g t D sa sc) (l : List Int) (a2 : Option Addr) (c2 : Nat) (hrow : Row w w.heap.size a2 l.length c2 1 (intsC l)) (hnil : a2 = none → l.length = 0 ∧ c2 = 0) (hfar : ∀ k o, a2 = some ⟨k, o, none⟩ → ¬ D k ∧ k ≠ lp ∧ w0.heap.size ≤ k ∧ k < w.heap.size) :
 LK w0 (w.setCell ⟨lp, 2, none⟩ (.slice a2 l.length c2)) dp lp size { g with segs := l } t D a2 c2 := by
 refine ⟨h.dk.setOut ⟨lp, 2, none⟩ _ h.own h.base, ⟨heap_setCell_same w lp 2 _ _ (.slice a2 l.length c2) h.at_.blk, ?_, hnil⟩, h.base, h.own, fun k o e => ?_⟩
 · exact hrow.but ((But.refl (fun k => k = lp) w).setCell (p := ⟨lp, 2, none⟩) (.inl rfl) _) (fun _ k o e => (hfar k o e).2.1)
 obtain ⟨h1, h2, h3, h4⟩ := hfar k o e
 exact ⟨h1, h2, h3, by simpa using h4⟩
def behindW (w : World) (lp : Nat) (seq : Int) : World := (w.alloc (.cells #[.pointer (some ⟨lp, 0, none⟩)] 29)).alloc (.cells #[.int .i64 seq] 2)
theorem behind_any (lp : Nat) (seq : Int) (w : World) :
 Calls Tryz.prog 77 #[.pointer (some ⟨lp, 0, none⟩), .int .i64 seq] w fun e w' =>
  e = .returned (.func (.func 130) #[] #[.pointer (some ⟨w.heap.size, 0, none⟩), .pointer (some ⟨w.heap.size + 1, 0, none⟩)]) ∧ w' = behindW w lp seq := by
 go_enter Tryz.func77, Tryz.ntmps77
 go_wp2
 go_ret
 exact ⟨rfl, rfl⟩
theorem behindW_below (w : World) (lp : Nat) (seq : Int) : Below w.heap.size w (behindW w lp seq) := ((Below.refl _ w).alloc Qn _).alloc (by simp) _
def ColT (w : World) (g : Lg) (seq : Int) (e : Ending) (w' : World) : Prop :=
 ∃ a c, e = .returned (.slice a (lgGone g seq) c) ∧ Row w' w'.heap.size a (lgGone g seq) c 1 (nmC ((g.segs.take (lgGone g seq)).map nm)) ∧ Below w.heap.size w w' ∧ ∀ k o, a = some ⟨k, o, none⟩ → w.heap.size ≤ k ∧ k < w'.heap.size
theorem retain_of (h : LK w0 w dp lp size g t D sa sc) (hne : g.segs ≠ []) (hlen : g.segs.length ≤ 1000) (seq : Int)
 (HC : Calls Tryz.prog 76 #[.func (.func 130) #[] #[.pointer (some ⟨w.heap.size, 0, none⟩), .pointer (some ⟨w.heap.size + 1, 0, none⟩)]] (behindW w lp seq) (ColT (behindW w lp seq) g seq)) :
 Calls Tryz.prog 29 #[.pointer (some ⟨lp, 0, none⟩), .int .i64 seq] w fun e w' => e = .returned (.int .i64 (lgRetain g t seq).1) ∧ LMv w0 w dp lp size (lO D lp sa) (lgRetain g t seq).2.2 (lgRetain g t seq).2.1 w' := by
 have BH := Qh (behind_any lp seq w)
 have HC := Qh HC
 have hgl := lgGone_lt hne seq
 have hR : Hid (lgRetain g t seq = if lgGone g seq = 0 then (0, t, g) else if (mSwap t (g.segs.drop (lgGone g seq))).1 ≠ 0 then ((mSwap t (g.segs.drop (lgGone g seq))).1, (mSwap t (g.segs.drop (lgGone g seq))).2, g) else
  ((delEach ((g.segs.take (lgGone g seq)).map nm) 0 (mSwap t (g.segs.drop (lgGone g seq))).2).1, (delEach ((g.segs.take (lgGone g seq)).map nm) 0 (mSwap t (g.segs.drop (lgGone g seq))).2).2, { g with segs := g.segs.drop (lgGone g seq) })) := rfl
 have hbW := behindW_below w lp seq
 have H := Qh (Qa h (Qa hne (Qa hlen hbW)))
 clear h hne hlen hbW
 go_enter Tryz.func29, Tryz.ntmps29
 go_wp2_with fail
 refine BH.out.mono ?_
 rintro e w1 ⟨rfl, rfl⟩
 clear BH
 go_wp2_with fail
 refine HC.out.mono ?_
 rintro e w2 ⟨a, c, rfl, hr2, hb2, ha2⟩
 unfold ColT at *
 generalize lgGone g seq = n at *
 have B2 : Below w.heap.size w w2 := H.out.2.2.2.trans (hb2.mono H.out.2.2.2.size)
 have K2 := H.out.1.on B2
 have hsl := K2.at_.c2
 have lc0 := K2.at_.c0
 obtain ⟨m, hm⟩ : ∃ m, m = g.segs.length := ⟨_, rfl⟩
 have hll : lp < w2.heap.size := K2.at_.lt
 have hrow2 := K2.at_.row
 have hnil2 := K2.at_.nil_
 have hfar2 := K2.far
 have hbig : w.heap.size ≤ (behindW w lp seq).heap.size := H.out.2.2.2.size
 have hDlt := H.out.1.dk.lt
 have hlpw := H.out.1.at_.lt
 have HN := Qh (Qa hr2 (Qa ha2 (Qa B2 (Qa K2 hm))))
 rw [← hm] at hsl hgl
 by_cases h0 : n = 0
 · subst h0
   have hres : Hid (lgRetain g t seq = (0, t, g)) := hR.out
   clear hR HC hr2 ha2 B2 K2 hrow2 hnil2 hfar2 hb2 hm
   go_wp2
   go_ret
   rw [hres.out]
   exact ⟨rfl, H.out.1.still HN.out.2.2.1⟩
 have hne0 : ((n : Int) == 0) = false := by simp; omega
 have hres := Qh (hR.out.trans (if_neg h0))
 have cut : ∀ x : World, (Instr.slice 50 (.slice sa m sc) (some (.int .i64 (n : Int))) none none).run Tryz.prog x = .ok (.slice (fromA sa sc n) (m - n) (sc - n)) x := fun x => run_cut1_from (P := Tryz.prog) 50 2 Tryz.underlying50 info_i64m sa m sc n (by omega) x
 obtain ⟨st, hst⟩ : ∃ st, st = g.segs.drop n := ⟨_, rfl⟩
 have hstl : st.length = m - n := by rw [hst, List.length_drop, hm]
 have CL := Qh (clone_ints (fromA sa sc n) (m - n) (sc - n) st w2 (by rw [hst, hm]; exact hrow2.from_ (by omega) rfl) hstl (fun hn => by
  have hs : sa = none := by unfold fromA at hn; split at hn <;> simp_all
  have := hnil2 hs
  omega) (by have := H.out.2.2.1; omega))
 rw [← hst] at hres
 have HS := Qh (Qa hst hstl)
 clear hR HC hr2 ha2 B2 K2 hrow2 hnil2 hfar2 hm h0 hst hstl
 go_wp2_with fail
 refine CL.out.mono ?_
 rintro e w3 ⟨v, rfl, ho3, hb3⟩
 obtain ⟨a3, c3, rfl, hr3, ha3⟩ := OwnV.out_ ho3
 have hnil3 := OwnV.nil_own ho3
 have K3 := HN.out.2.2.2.1.on hb3
 have SW := Qh (mswap_any K3.dk st a3 st.length c3 hr3 rfl (fun _ k o e hd => by have := hDlt k hd; have := ha3 k o e; have := HN.out.2.2.1.size; omega))
 have lc03 := K3.at_.c0
 obtain ⟨q, hq⟩ : ∃ q, q = st.length := ⟨_, rfl⟩
 rw [← hq] at hr3 SW
 generalize hs : mSwap t st = s at *
 have H3 := Qh (Qa ho3 (Qa hb3 (Qa hr3 (Qa ha3 (Qa hnil3 (Qa K3 hq))))))
 clear CL ho3 hb3 hr3 ha3 hnil3 K3 hs hsl lc0
 try rw [← hq]
 clear hq
 go_wp2_with fail
 refine SW.out.mono ?_
 rintro e w4 ⟨rfl, hmv⟩
 have B3 := HN.out.2.2.1.trans (H3.out.2.1.mono HN.out.2.2.1.size)
 have hB2 := HN.out.2.2.1.size
 have hB3 := H3.out.2.1.size
 by_cases hz : s.1 = 0
 · obtain ⟨D4, hk4, b4, hD4⟩ := hmv
   have K4 := H3.out.2.2.2.2.2.1.but hk4 b4 hD4
   have hb4 := b4.size
   have h3f : ∀ k o, a3 = some ⟨k, o, none⟩ → w2.heap.size ≤ k ∧ k < w3.heap.size := fun k o e => H3.out.1.at_base (by rw [e]; rfl)
   have hr4 : Row w4 w4.heap.size a3 q c3 1 (intsC st) := H3.out.2.2.1.but b4 (fun _ k o e hd => by have := hDlt k hd; have := (h3f k o e).1; omega)
   have hD4' : ∀ k, k < w3.heap.size → w.heap.size ≤ k → ¬ D4 k := fun k h1 h2 hd => by
    rcases hD4 k hd with h3 | h3
    · have := hDlt k h3; omega
    omega
   have hw0 := H.out.1.dk.below.size
   have K5 := K4.setSegs st a3 c3 (by rw [← H3.out.2.2.2.2.2.2]; exact hr4) (fun e => by subst e; exact H3.out.2.2.2.2.1 _ _ rfl) (fun k o e => by have := h3f k o e; exact ⟨hD4' k (by omega) (by omega), by omega, by omega, by omega⟩)
   rw [← H3.out.2.2.2.2.2.2] at K5
   have lc04 := K4.at_.c0
   have lz4 := K4.at_.z 2
   have lc24 := K4.at_.c2
   have hnf : ∀ k o, a = some ⟨k, o, none⟩ → ¬ D4 k ∧ k ≠ lp := fun k o e => by
    have := HN.out.2.1 k o e
    exact ⟨hD4' k (by omega) (by omega), by omega⟩
   have hr5 : Row (w4.setCell ⟨lp, 2, none⟩ (.slice a3 q c3)) (w4.setCell ⟨lp, 2, none⟩ (.slice a3 q c3)).heap.size a n c 1 (nmC ((g.segs.take n).map nm)) := by
    have r3 := (HN.out.1.below H3.out.2.1 Qn).more H3.out.2.1.size
    have r4 : Row w4 w4.heap.size a n c 1 (nmC ((g.segs.take n).map nm)) := r3.but b4 (fun _ k o e hd => by have := hDlt k hd; have := HN.out.2.1 k o e; omega)
    exact r4.but ((But.refl (fun k => k = lp) w4).setCell (p := ⟨lp, 2, none⟩) (.inl rfl) _) (fun _ k o e => (hnf k o e).2)
   have DE := deleteEach_any K5.dk K5.at_.c0 K5.own ((g.segs.take n).map nm) a n c (by rw [List.length_map, List.length_take]; have := HN.out.2.2.2.2; omega) hr5 (fun y hy => by
    obtain ⟨x, _, rfl⟩ := List.mem_map.1 hy
    have := nm_short x; unfold shortS; omega) (fun k o e => (hnf k o e).1)
   have hresz := Qh (hres.out.trans (if_neg (by simp [hz])))
   generalize delEach ((g.segs.take n).map nm) 0 s.2 = r at *
   have hb45 : But (lO D lp sa) w (w4.setCell ⟨lp, 2, none⟩ (.slice a3 q c3)) := ((But.of_below (O := lO D lp sa) B3).trans b4 (fun k hk => .inl (.inl hk))).trans ((But.refl (fun k => k = lp) w4).setCell (p := ⟨lp, 2, none⟩) (.inl rfl) _) (fun k hk => .inl (.inr (.inl hk)))
   have hO5 : ∀ k, lO D4 lp a3 k → lO D lp sa k ∨ w.heap.size ≤ k := fun k hk => by
    rcases hk with h1 | h1 | ⟨o, h1⟩
    · rcases hD4 k h1 with h2 | h2
      · exact .inl (.inl h2)
      exact .inr (by omega)
    · exact .inl (.inr (.inl h1))
    exact .inr (by have := h3f k o h1; omega)
   have HE := Qh (Qa K5 (Qa hb45 hO5))
   have DE := Qh DE
   have hlp4 := K4.at_.lt
   clear hk4 b4 hD4 K4 hb4 h3f hr4 hD4' hw0 K5 hnf hr5 hb45 hO5 hres SW
   go_wp2_with fail
   refine DE.out.mono ?_
   rintro e w6 ⟨rfl, h6⟩
   have H6 := Qh h6
   clear h6 DE
   go_wp2
   go_ret
   rw [hresz.out]
   exact ⟨rfl, LMv.then HE.out.2.1 HE.out.2.2 (HE.out.1.mv H6.out)⟩
 have hzn : ((s.1 : Int) != 0) = true := by simpa using hz
 have hresz := Qh (hres.out.trans (if_pos hz))
 have HL := Qh (LMv.then (But.of_below (O := lO D lp sa) B3) (fun k hk => .inl hk) (H3.out.2.2.2.2.2.1.mv hmv))
 clear hmv hz hres SW
 go_wp2
 go_ret
 rw [hresz.out]
 exact ⟨rfl, HL.out⟩
end
end
section
open Go.RowKit
section
variable {F : Fence} {n : Nat} {P : Program} {w : World}
def TellsV {α β : Type} (F : Fence) (n : Nat) (P : Program) (gf : Nat) (lb : Array Value) (encs : α → Array Value) (M : List α → α → Prop) (U : List α → β → World → Prop) (Kp : β → World → β → World → Prop) (S Sp : List α → Prop) (w : World) : Prop :=
 ∀ (l : Nat) (J : List α → β → World → Prop) (Jx : List α → World → Prop) (W : World) (d0 : β), Below w.heap.size w W → w.heap.size + 2 ≤ W.heap.size → (∀ s d X Y, J s d X → Below X.heap.size X Y → J s d Y) → (∀ s d X, J s d X → U s d X) →
  (∀ pre d x X, J pre d X → M pre x → YieldAt F (n - 1) P l (encs x) X fun e Y => (e = .returned (.bool true) ∧ ∃ d', J (pre ++ [x]) d' Y ∧ Kp d X d' Y) ∨ (e = .returned (.bool false) ∧ Jx (pre ++ [x]) Y)) → J [] d0 W →
  CallsIn F n P gf (#[.func (.yield l) #[] #[]] ++ lb) W fun e Y => (∃ v, e = .returned v) ∧ ((∃ xs d, S xs ∧ J xs d Y) ∨ (∃ pre, Sp pre ∧ Jx pre Y))
theorem range_tellsV {α β : Type} {g : Operand} {ps : Array Tmp} {assign body : Code} {Q : Exit → Act → World → Prop} {a : Act}
 (hro : F.round = none) (h1 : 1 ≤ n) {gf : Nat} {lb : Array Value} (hg : a.eval g = .func (.func gf) #[] lb) (hF : F.fn gf) (eg : ∀ args w, (callFunc gf args).run P w = .ok (.enter gf args) w)
 {encs : α → Array Value} {M : List α → α → Prop} {U : List α → β → World → Prop} {Kp : β → World → β → World → Prop} {S Sp : List α → Prop} (hseq : TellsV F (n - 1) P gf lb encs M U Kp S Sp w) (hps : ∀ x, (encs x).size = ps.size)
 (I : List α → β → World → Prop) (Ix : Code → List α → World → Prop) (d0 : β) (hI : ∀ pre d X Y, I pre d X → Below X.heap.size X Y → I pre d Y)
 (hI2 : ∀ pre d X r o, I pre d X → X.heap[w.heap.size + 1]? = some (.loop r) → I pre d (X.putObj (w.heap.size + 1) o)) (hKp : ∀ d X d' Y o o', Kp d (X.putObj (w.heap.size + 1) o) d' Y → Kp d X d' (Y.putObj (w.heap.size + 1) o')) (hIx2 : ∀ c pre X r o, Ix c pre X → X.heap[w.heap.size + 1]? = some (.loop r) → Ix c pre (X.putObj (w.heap.size + 1) o))
 (hU : ∀ pre d X, I pre d X → U pre d X) (h0 : I [] d0 w) (Ax : α → Act)
 (hassign : ∀ (l : Nat) (pre : List α) (d : β) (x : α) (W : World) (K : Act → World → Prop), I pre d W → M pre x → K (Ax x) W →
  assign.wpIn (F.inRound l) (n - 1 - 1) P (Exit.then K (fun _ _ _ => False)) { tmps := (ps.zip (encs x)).foldl (fun t (p, v) => t.setIfInBounds p v) a.tmps, defers := [] } W)
 (hbody : ∀ (l : Nat) (pre : List α) (d : β) (x : α) (W : World), I pre d W → M pre x → w.heap.size + 2 ≤ W.heap.size → body.wpIn (F.inRound l) (n - 1 - 1) P (postU w.heap.size I Kp d Ix (pre ++ [x]) W) (Ax x) W)
 (hdone : ∀ (xs : List α) (d : β) (W : World), S xs → I xs d W → W.heap[w.heap.size]? = some (.deferred (some [])) → Q .normal { a with defers := { target := .collected w.heap.size, args := #[] } :: a.defers } W)
 (hstop : ∀ (c : Code) (pre : List α) (W : World), Sp pre → Ix c pre W → W.heap[w.heap.size]? = some (.deferred (some [])) → c.wpIn F n P Q { a with defers := { target := .collected w.heap.size, args := #[] } :: a.defers } W) :
 (Code.rangeFunc g ps assign body).wpIn F n P Q a w := by
 refine wpIn_rangeFunc fun fn hfn => ?_
 rw [hro]
 obtain ⟨R, hR⟩ : ∃ R : LoopState → Option Code → Loop, R = fun s p => { state := s, pending := p, fn, tmps := a.tmps, params := ps, assign, body, defers := w.heap.size } := ⟨_, rfl⟩
 obtain ⟨V, hV⟩ : ∃ V, V = (w.alloc (.deferred (some []))).alloc (.loop (R .ready none)) := ⟨_, rfl⟩
 have hL : LoopAt w.heap.size (R .ready none) V := by
  rw [hV]
  refine ⟨?_, (Below.heap_alloc _ _ _ (by simp)).trans (World.alloc_heap_new w _)⟩
  have := World.alloc_heap_new (w.alloc (.deferred (some []))) (.loop (R .ready none))
  rwa [World.size_alloc] at this
 have hbV : Below w.heap.size w V := by rw [hV]; exact ((Below.refl _ w).alloc Qn _).alloc (by simp) _
 have hIV : I [] d0 V := hI _ _ _ _ h0 hbV
 refine ⟨w.heap.size + 1, [{ target := .collected w.heap.size, args := #[] }], V, { target := .fn (.func gf) lb, args := #[.func (.yield (w.heap.size + 1)) #[] #[]] }, V, gf, #[.func (.yield (w.heap.size + 1)) #[] #[]] ++ lb, V, ?_, ?_, ?_, ?_, fun _ => h1, ?_⟩
 · rw [hV, hR]; exact run_enterLoop_outer _ _ _ _ _
 · simp only [resolve, hg]; simp [go_sem]
 · intro f' hf'; simp [Target.leads] at hf'; subst hf'; exact hF
 · simp [invoke, go_sem, eg]
 refine (hseq (w.heap.size + 1) (fun pre d W => I pre d W ∧ LoopAt w.heap.size (R .ready none) W) (fun pre W => ∃ c, Ix c pre W ∧ LoopAt w.heap.size (R .done (some c)) W) V d0 hbV (by rw [hV]; simp)
  (fun s d X Y h hb => ⟨hI s d X Y h.1 hb, h.2.onB hb⟩) (fun s d X h => hU s d X h.1) ?_ ⟨hIV, hL⟩).mono ?_
 · rintro pre d x X ⟨hi, hX⟩ hm
   have hy := run_yield (P := P) (args := encs x) hX.own (by rw [hR]; exact hps x)
   rw [hR] at hy
   refine ⟨fn, _, assign, body, hy, roundIn_of_wpIn hfn (hassign _ pre d x X _ hi hm ?_)⟩
   clear hy
   refine ⟨_, run_beginRound hX.own (by rw [hR]), ?_⟩
   have hZ := hX.put { R .ready none with state := .busy }
   refine wpIn_mono (hbody _ pre d x _ (hI2 _ _ _ _ _ hi hX.own) hm hZ.lt) ?_
   have fin : ∀ (jump : Option Code) (U : World), KeepsL w.heap.size (X.putObj (w.heap.size + 1) (.loop { R .ready none with state := .busy })) U →
    (Instr.endRound (w.heap.size + 1) jump).run P U = .ok (.bool jump.isNone) (U.putObj (w.heap.size + 1) (.loop (R (if jump.isNone then .ready else .done) jump))) ∧ LoopAt w.heap.size { R .ready none with state := .busy } U ∧
    LoopAt w.heap.size (R (if jump.isNone then .ready else .done) jump) (U.putObj (w.heap.size + 1) (.loop (R (if jump.isNone then .ready else .done) jump))) := fun jump U hk => by
    have hU := hZ.keptL hk
    have := run_endRound (P := P) jump hU.own
    refine ⟨?_, hU, hU.put _⟩
    rw [hR] at this ⊢
    exact this
   rintro e a3 U hp
   match e, hp with
   | .normal, ⟨p1, d', p3, p4⟩ =>
    obtain ⟨q1, q2, q3⟩ := fin none U p1
    exact ⟨_, _, q1, .inl ⟨rfl, d', ⟨hI2 _ _ _ _ _ p3 q2.own, q3⟩, hKp _ _ _ _ _ _ p4⟩⟩
   | .ret, ⟨p1, p3⟩ =>
    obtain ⟨q1, q2, q3⟩ := fin (some .ret) U p1
    exact ⟨_, _, q1, .inr ⟨rfl, .ret, hIx2 _ _ _ _ _ p3 q2.own, q3⟩⟩
   | .exit id, ⟨p1, p3⟩ =>
    obtain ⟨q1, q2, q3⟩ := fin (some (.exit id)) U p1
    exact ⟨_, _, q1, .inr ⟨rfl, .exit id, hIx2 _ _ _ _ _ p3 q2.own, q3⟩⟩
   | .goto t, ⟨p1, p3⟩ =>
    obtain ⟨q1, q2, q3⟩ := fin (some (.goto t)) U p1
    exact ⟨_, _, q1, .inr ⟨rfl, .goto t, hIx2 _ _ _ _ _ p3 q2.own, q3⟩⟩
 rintro e U ⟨⟨v, rfl⟩, h⟩
 have last : ∀ {s : LoopState} {p : Option Code}, LoopAt w.heap.size (R s p) U → s ≠ .busy → (Instr.endLoop (w.heap.size + 1)).run P U = .ok p (U.putObj (w.heap.size + 1) (.loop { R s p with state := .exhausted })) := fun {s p} h hs => by
  have := run_endLoop (P := P) h.own (by rw [hR]; exact hs)
  rw [hR] at this ⊢
  exact this
 rcases h with ⟨xs, d, hS, hi, hU⟩ | ⟨pre, hSp, c, hi, hU⟩
 · exact ⟨none, _, last hU (by simp), hdone xs d _ hS (hI2 _ _ _ _ _ hi hU.own) ((World.putObj_heap_other (by omega)).trans hU.shut)⟩
 exact ⟨some c, _, last hU (by simp), hstop c pre _ hSp (hIx2 _ _ _ _ _ hi hU.own) ((World.putObj_heap_other (by omega)).trans hU.shut)⟩
end
end
section
section
variable {F : Fence} {n : Nat} {P : Program} {ops : Array Oper} {Q : Exit → Act → World → Prop} {md : Region.Mode} {S : World → Prop} {T : List Nat}
def GivesF (P : Program) (ops : Array Oper) (S : World → Prop) (o : Oper) (v : Value) (a : Act) : Prop := YieldsIf P ops S o v a ∧ ∀ w, o.about P w a.eval = none
theorem GivesF.same {o : Oper} {v : Value} {a b : Act} (h : GivesF P ops S o v a) (he : execOp b.eval o = execOp a.eval o) (hw : Region.wanted o (yielded ops b.tmps) = Region.wanted o (yielded ops a.tmps)) (hb : ∀ w, o.about P w b.eval = o.about P w a.eval) : GivesF P ops S o v b :=
 ⟨h.1.of_same he hw, fun w => (hb w).trans (h.2 w)⟩
theorem GivesF.op {i : Nat} {o : Oper} {v : Value} {a : Act} (hro : F.round = none) (hi : ops[i]? = some o) (h : GivesF P ops S o v a) {K : Act → World → Prop} {w : World} (hS : S w) (hk : K (a.put o.dst v) w) : wpOpIn F n P ops Q i K a w := by
 have hab : ∀ f, o.about P w a.eval = some f → F.fn f := fun f hf => by rw [h.2 w] at hf; cases hf
 unfold wpOpIn
 rw [hi]
 show if Region.wanted o (yielded ops a.tmps) = true then _ else _
 rcases h.1 with ⟨hw, hv⟩ | ⟨hw, rfl⟩
 · rw [if_pos hw]
   unfold Oper.wpIn
   rw [hro, Oper.semAt_none, hv w hS]
   exact ⟨hab, hk⟩
 rw [hw]; exact ⟨hab, hk⟩
theorem GivesF.pass {j : Nat} {x y : Oper} {v : Value} (hro : F.round = none) (hj : ops[j]? = some y) (hap : x.apart ops y = true) (hsx : ∀ cs b, x.op ≠ .select cs b) (hsy : ∀ cs b, y.op ≠ .select cs b)
 (hQ : ∀ c a w, Q (.panic c) (a.put x.dst v) w → Q (.panic c) a w) {K : Act → World → Prop} {a : Act} {w : World} (hx : GivesF P ops S x v a) (h : wpOpIn F n P ops Q j K (a.put x.dst v) w) :
 wpOpIn F n P ops Q j (fun b u => GivesF P ops S x v b ∧ K (b.put x.dst v) u) a w := by
 obtain ⟨n1, n2, n3⟩ := Oper.apart_spec hap
 have g1 : ∀ u, GivesF P ops S x v (a.put y.dst u) := fun u => hx.same (execOp_put x hsx a y.dst u n3) (wanted_put x a y.dst u n3) (fun w => about_put x w a y.dst u n3)
 have g2 : ∀ d u, GivesF P ops S x v (({ a with defers := d :: a.defers } : Act).put y.dst u) := fun d u => by
  have g : GivesF P ops S x v ({ a with defers := d :: a.defers } : Act) := hx
  exact g.same (execOp_put x hsx _ y.dst u n3) (wanted_put x _ y.dst u n3) (fun w => about_put x w _ y.dst u n3)
 have ew := wanted_put y a x.dst v n1
 have ee := execOp_put y hsy a x.dst v n1
 have ea := about_put (P := P) y w a x.dst v n1
 unfold wpOpIn at h ⊢
 rw [hj] at h ⊢
 simp only [] at h ⊢
 rw [ew, ea] at h
 by_cases hw : Region.wanted y (yielded ops a.tmps) = true
 · rw [if_pos hw] at h ⊢
   unfold Oper.wpIn at h ⊢
   rw [ea] at h
   refine ⟨h.1, ?_⟩
   have h := h.2
   rw [hro, Oper.semAt_none, ee] at h
   rw [hro, Oper.semAt_none]
   revert h
   generalize (execOp a.eval y).run P w = r
   intro h
   match r, h with
   | .ok (.value u) w', h => exact ⟨g1 u, by rw [← Act.put_comm a v u n2]; exact h⟩
   | .ok .skip w', h => exact ⟨g1 undef, by rw [← Act.put_comm a v undef n2]; exact h⟩
   | .ok (.defer d) w', h =>
    refine ⟨g2 d undef, ?_⟩
    rw [← Act.put_comm _ v undef n2, ← Act.put_defers]
    exact h
   | .ok (.enter f args) w', h =>
    refine ⟨h.1, CallsIn.mono h.2 fun e w'' he => ?_⟩
    match e, he with
    | .returned u, he => exact ⟨g1 u, by rw [← Act.put_comm a v u n2]; exact he⟩
    | .panicked c, he => exact hQ c a w'' he
    | .outgrown, he => exact he
   | .ok (.row row args) w', h => exact ⟨h.1, RowsIn.mono h.2 fun u w'' he => ⟨g1 u, by rw [← Act.put_comm a v u n2]; exact he⟩⟩
   | .ok (.round l f tmps assign body) w', h =>
    refine ⟨h.1, RoundIn.mono h.2 fun e w'' he => ?_⟩
    match e, he with
    | .returned u, he => exact ⟨g1 u, by rw [← Act.put_comm a v u n2]; exact he⟩
    | .panicked c, he => exact hQ c a w'' he
    | .outgrown, he => exact he
   | .halt (.panic u) w', h => exact hQ _ a w' h
 rw [if_neg hw] at h ⊢
 exact ⟨h.1, g1 undef, by rw [← Act.put_comm a v undef n2]; exact h.2⟩
def heldF (F : Fence) (n : Nat) (P : Program) (md : Region.Mode) (ops : Array Oper) (Q : Exit → Act → World → Prop) (S : World → Prop) (T : List Nat) : Nat → Array Bool → Act → World → Prop
 | 0, L, a, w => Region.ready md ops L = [] ∧ Q .normal a w
 | fuel + 1, L, a, w => (Region.ready md ops L = [] → Q .normal a w) ∧ ∀ i ∈ Region.ready md ops L, wpOpIn F n P ops Q i (fun b u => (S u ∨ i ∈ T) ∧ heldF F n P md ops Q S T fuel (L.setIfInBounds i true) b u) a w
theorem heldF.any : ∀ (fuel : Nat) (L : Array Bool) (a : Act) (w : World), heldF F n P md ops Q S T fuel L a w → wpAnyIn F n P md ops Q fuel L a w
 | 0, _, _, _, h => h
 | fuel + 1, _, _, _, h => ⟨h.1, fun i hi => wpOpIn_mono (fun a' w' h' => heldF.any fuel _ a' w' h'.2) (h.2 i hi)⟩
theorem region_tailF (S : World → Prop) (T : List Nat) {id : Nat} {a : Act} {w : World} (hm : P.follows .mixedOrders = true) (hS : S w.drew)
 (h : S w.drew → heldF F n P .any ops Q S T ops.size (Array.replicate ops.size false) a w.drew) : (Code.region id ops true).wpIn F n P Q a w :=
 wpIn_region_any hm (heldF.any _ _ _ _ (h hS))
theorem heldF.done {L : Array Bool} {a : Act} {w : World} (hr : Region.ready md ops L = []) (h : Q .normal a w) : ∀ fuel, heldF F n P md ops Q S T fuel L a w
 | 0 => ⟨hr, h⟩
 | _ + 1 => ⟨fun _ => h, by rw [hr]; simp⟩
theorem heldF.one {i : Nat} {o : Oper} {fuel : Nat} {L : Array Bool} {a : Act} {w : World} (hr : Region.ready md ops L = [i]) (ho : ops[i]? = some o)
 (h : ∀ K' : Act → World → Prop, Shut (∀ a w, (S w ∨ i ∈ T) → heldF F n P md ops Q S T fuel (L.setIfInBounds i true) a w → K' a w) → if Region.wanted o (yielded ops a.tmps) = true then Oper.wpIn F n P o a w K' Q else (∀ f, o.about P w a.eval = some f → F.fn f) ∧ K' (a.put o.dst undef) w) :
 heldF F n P md ops Q S T (fuel + 1) L a w := by
 refine ⟨fun h0 => (by rw [h0] at hr; cases hr), fun j hj => ?_⟩
 rw [hr] at hj
 rcases List.mem_cons.1 hj with rfl | hj
 · exact wpOpIn_step ho (fun K' hK => h K' (fun a w hS hW => hK a w ⟨hS, hW⟩))
 cases hj
theorem takeF_go {i : Nat} {x : Oper} {v : Value} (hro : F.round = none) (hi : ops[i]? = some x) (hsel : ∀ (j : Nat) (o : Oper) cs b, ops[j]? = some o → o.op ≠ .select cs b) (hQ : ∀ c a w, Q (.panic c) (a.put x.dst v) w → Q (.panic c) a w) (M : List Nat) (hT : ∀ j ∈ T, j ∈ M) (hM : ∀ m ∈ M, ∃ q, (q = i ∨ q ∈ M) ∧ Region.waitsFor md ops m q = true) :
 ∀ (fuel : Nat) (L : Array Bool) (a : Act) (w : World), (∀ j y, ops[j]? = some y → j ≠ i → L.getD j true = false → (∀ e ∈ y.after, Region.binds md e = true → e.on ≠ i) → x.apart ops y = true) →
  (∀ m ∈ M, L.getD m true = false) → i ∈ Region.ready md ops L → GivesF P ops S x v a → S w → heldF F n P md ops Q S T fuel (L.setIfInBounds i true) (a.put x.dst v) w → i ∉ T → heldF F n P md ops Q S T (fuel + 1) L a w := by
 intro fuel
 induction fuel with
 | zero =>
  intro L a w _ hm hr hx hS H hiT
  refine ⟨fun h0 => absurd hr (by rw [h0]; simp), fun j hj => ?_⟩
  rcases Nat.decEq j i with hne | heq
  · exact absurd (ready_mono hj hne) (by rw [H.1]; simp)
  subst heq; exact hx.op hro hi hS ⟨.inl hS, H⟩
 | succ fuel ih =>
  intro L a w hfree hm hr hx hS H hiT
  refine ⟨fun h0 => absurd hr (by rw [h0]; simp), fun j hj => ?_⟩
  rcases Nat.decEq j i with hne | heq
  · obtain ⟨hLj, y, hy, hall⟩ := mem_ready.1 hj
    have hLi := (mem_ready.1 hr).1
    have hno : ∀ q, L.getD q true = false → ∀ e ∈ y.after, Region.binds md e = true → e.on ≠ q := fun q hLq e he hb heq => by
     have h1 := hall e he hb
     rw [heq] at h1
     by_cases hlt : q < L.size
     · simp [hlt] at hLq h1; rw [hLq] at h1; cases h1
     simp [Array.getElem?_eq_none (Nat.le_of_not_lt hlt)] at h1
    have hjM : j ∉ M := fun hjm => by
     obtain ⟨q, hq, hwq⟩ := hM j hjm
     have hLq : L.getD q true = false := by
      rcases hq with rfl | hq
      · exact hLi
      exact hm q hq
     obtain ⟨oj, ho, e, he, hb, hon⟩ := Region.waitsFor_spec hwq
     rw [hy] at ho
     injection ho with ho
     subst ho
     exact hno q hLq e he hb hon
    have hjT : ¬ j ∈ T := fun h => hjM (hT j h)
    have h2 := GivesF.pass hro hy (hfree j y hy hne hLj (hno i hLi)) (fun cs b => hsel i x cs b hi) (fun cs b => hsel j y cs b hy) hQ hx (H.2 j (ready_mono hj hne))
    refine wpOpIn_mono (fun b u hb => ⟨hb.2.1, ih _ b u ?_ (fun m hmM => by rw [getD_set_ne true (show j ≠ m from fun (e : j = m) => hjM (by rw [e]; exact hmM))]; exact hm m hmM) (ready_mono hr (Ne.symm hne)) hb.1 (hb.2.1.resolve_right hjT) ?_ hiT⟩) h2
    · intro k z hz hki hun hnz
      refine hfree k z hz hki ?_ hnz
      rcases Nat.decEq j k with hjk | hjk
      · rw [getD_set_ne true hjk] at hun; exact hun
      subst hjk; exact hLj
    rw [Array.setIfInBounds_comm _ _ hne]; exact hb.2.2
  subst heq; exact hx.op hro hi hS ⟨.inl hS, H⟩
def lateOk (md : Region.Mode) (ops : Array Oper) (T M : List Nat) (i : Nat) (L : Array Bool) : Bool :=
 T.all (fun j => M.contains j) && M.all (fun m => (i :: M).any fun q => Region.waitsFor md ops m q) && M.all (fun m => L.getD m true == false) && !T.contains i
theorem takeF (M : List Nat) {i : Nat} {x : Oper} {v : Value} {fuel : Nat} {L : Array Bool} {a : Act} {w : World} (hro : F.round = none) (hi : ops[i]? = some x) (hs : Region.noSelect ops = true) (hf : Region.free md ops L i = true) (hr : (Region.ready md ops L).contains i = true) (hM : lateOk md ops T M i L = true)
 (hQ : ∀ c a w, Q (.panic c) (a.put x.dst v) w → Q (.panic c) a w) (hx : YieldsIf P ops S x v a) (hb : ∀ w, x.about P w a.eval = none) (hS : S w) (h : heldF F n P md ops Q S T fuel (L.setIfInBounds i true) (a.put x.dst v) w) : heldF F n P md ops Q S T (fuel + 1) L a w := by
 simp only [lateOk, Bool.and_eq_true, List.all_eq_true, List.any_eq_true, List.contains_iff_mem, beq_iff_eq, Bool.not_eq_true', List.mem_cons] at hM
 exact takeF_go hro hi (Region.noSelect_spec hs) hQ M hM.1.1.1 hM.1.1.2 fuel L a w (Region.free_spec hi hf) hM.1.2 (by simpa using hr) ⟨hx, hb⟩ hS h (by have := hM.2; simpa using this)
end
end
section
open Go.RowKit Go.Sort Go.Maps Go.Shelf
open Sgn
attribute [local go_sem] Oper.semAt_some
theorem nm_le11 (n : Int) : (nm n).length ≤ 11 := by
 unfold nm
 split
 · rename_i h
   have := itoa_len h.1 h.2
   simp [Lib.repeatL_length]
   omega
 simp
theorem ite_yes {b : Bool} {p q : Prop} (h : b = true) (hp : p) : if b = true then p else q := by rw [if_pos h]; exact hp
theorem ite_no {b : Bool} {p q : Prop} (h : b = false) (hq : q) : if b = true then p else q := by rw [if_neg (by rw [h]; simp)]; exact hq
theorem gone_le {seq : Int} : ∀ {l : List Int} {k : Nat}, k < (l.takeWhile fun x => decide (x ≤ seq)).length → l.getD k 0 ≤ seq
 | [], k, h => absurd h (by simp)
 | x :: r, k, h => by
  by_cases hx : x ≤ seq
  · rw [List.takeWhile_cons_of_pos (by simpa using hx)] at h
    cases k with
    | zero => simpa using hx
    | succ k =>
     have := gone_le (l := r) (k := k) (by simpa using h)
     simpa using this
  rw [List.takeWhile_cons_of_neg (by simpa using hx)] at h
  exact absurd h (by simp)
theorem gone_gt {seq : Int} : ∀ {l : List Int}, (l.takeWhile fun x => decide (x ≤ seq)).length < l.length → seq < l.getD (l.takeWhile fun x => decide (x ≤ seq)).length 0
 | [], h => absurd h (by simp)
 | x :: r, h => by
  by_cases hx : x ≤ seq
  · rw [List.takeWhile_cons_of_pos (by simpa using hx)] at h ⊢
    have := gone_gt (seq := seq) (l := r) (by simpa using h)
    simpa using this
  rw [List.takeWhile_cons_of_neg (by simpa using hx)]
  simp; omega
theorem tail_getD (l : List Int) (k : Nat) : l.tail.getD k 0 = l.getD (k + 1) 0 := by
 cases l <;> simp
theorem behind_tells {w wb : World} {lp bl bs m sc : Nat} {sa : Option Addr} (segs : List Int) (seq : Int) (hb0 : Laid wb) (hl : wb.cell? ⟨bl, 0, none⟩ = some (.pointer (some ⟨lp, 0, none⟩))) (hs : wb.cell? ⟨bs, 0, none⟩ = some (.int .i64 seq)) (c2 : wb.cell? ⟨lp, 2, none⟩ = some (.slice sa m sc))
 (hr : Row wb wb.heap.size sa m sc 1 (intsC segs)) (hm : segs.length = m) (hm0 : 0 < m) (hm6 : m ≤ 1000) (names : List (List UInt8)) (hn : names = (segs.take (segs.tail.takeWhile fun x => decide (x ≤ seq)).length).map nm) :
 TellsV Fence.wide 11 Tryz.prog 130 #[.pointer (some ⟨bl, 0, none⟩), .pointer (some ⟨bs, 0, none⟩)] encS (fun pre x => shortS x ∧ ∃ post, names = (pre ++ [x]) ++ post) (fun _ (_ : Unit) X => Below wb.heap.size wb X) (fun _ _ _ _ => True) (· = names) (fun pre => ∃ post, names = pre ++ post) w := by
 intro l J Jx W d0 hBW _ hJ hU hY h0
 have hbl := block_lt_of_cell hl
 have hbs := block_lt_of_cell hs
 have hb2 := block_lt_of_cell c2
 obtain ⟨N, hN⟩ : ∃ N, N = (segs.tail.takeWhile fun x => decide (x ≤ seq)).length := ⟨_, rfl⟩
 rw [← hN] at hn
 have CE : Hid (∀ X, Below wb.heap.size wb X → X.cell? ⟨bl, 0, none⟩ = some (.pointer (some ⟨lp, 0, none⟩)) ∧ X.cell? ⟨bs, 0, none⟩ = some (.int .i64 seq) ∧ X.cell? ⟨lp, 2, none⟩ = some (.slice sa m sc) ∧ Row X wb.heap.size sa m sc 1 (intsC segs)) := fun X hX =>
  ⟨(hX.cell (p := ⟨bl, 0, none⟩) hbl).trans hl, (hX.cell (p := ⟨bs, 0, none⟩) hbs).trans hs, (hX.cell (p := ⟨lp, 2, none⟩) hb2).trans c2, hr.below hX Qn⟩
 have HT1 : Hid (∀ k, k + 1 < m → k < N → segs.getD (k + 1) 0 ≤ seq) := fun k h1 h2 => by rw [hN] at h2; rw [← tail_getD]; exact gone_le h2
 have HT2 : Hid (∀ k, k + 1 < m → k = N → seq < segs.getD (k + 1) 0) := fun k h1 h2 => by
  subst h2
  have := gone_gt (seq := seq) (l := segs.tail) (by rw [← hN, List.length_tail]; omega)
  rw [← hN, tail_getD] at this
  exact this
 have HNm : Hid (N < m) := by
  show N < m
  rw [hN]
  have h1 := (List.takeWhile_prefix (p := fun x => decide (x ≤ seq)) (l := segs.tail)).length_le
  rw [List.length_tail] at h1
  omega
 have HY := Qh (Qa hJ (Qa hU (Qa hY hn)))
 have hrl := hr.le
 have hrm := hr.max
 unfold maxLen at hrm
 obtain ⟨hcl, hcs, hc2, _⟩ := CE.out _ (HY.out.2.1 _ _ _ h0)
 have HMM := Qh hm
 have hw1 : IntKind.i64.wrap ((m : Int) - 1) = ((m - 1 : Nat) : Int) := by rw [IntKind.wrap_i64]; omega
 clear hl hs c2 hr hbl hbs hb2 hU hJ hY hn hN hm
 refine callsIn_of_wp Tryz.func130 rfl trivial ?_ rfl
 simp only [Tryz.ntmps130, List.size_toArray, List.length_cons, List.length_nil, Nat.reduceAdd, Nat.reduceSub, Array.replicate_succ, Array.replicate_zero, List.push_toArray, List.append_toArray, List.nil_append, List.cons_append]
 gi_wp2
 gi_loopw [4, 11] (fun _ i wr => ∃ (k : Nat) (d : Unit), k ≤ m - 1 ∧ k ≤ N ∧ i = .int .i64 (k : Int) ∧ J ((segs.take k).map nm) d wr) (fun _ i _ => m - (intOf i).toNat)
 case atStart => exact ⟨0, d0, Nat.zero_le _, Nat.zero_le _, rfl, h0⟩
 case round =>
  obtain ⟨k, d, hk, hkN, rfl, hJs⟩ := hrel
  have hB := HY.out.2.1 _ _ _ hJs
  obtain ⟨hcl, hcs, hc2, hrr⟩ := CE.out _ hB
  have hNm := HNm.out
  by_cases hlt : k < m - 1
  · have hlt' : (k : Int) < ((m - 1 : Nat) : Int) := by omega
    have hlt2 : (k : Int) < (m : Int) := by omega
    have hlt3 : ((k + 1 : Nat) : Int) < (m : Int) := by omega
    have hk0 : (0 : Int) ≤ (k : Int) := by omega
    have hk1 : (0 : Int) ≤ ((k + 1 : Nat) : Int) := by omega
    have hw2 : IntKind.i64.wrap ((k : Int) + 1) = ((k + 1 : Nat) : Int) := by rw [IntKind.wrap_i64]; omega
    have hkn : ((k + 1 : Nat) : Int).toNat = k + 1 := by omega
    obtain ⟨b, o, rfl, hbl, hc⟩ := hrr.at_ (by omega)
    have e0 : wr.cell? ⟨b, o + k, none⟩ = some (.int .i64 (segs.getD k 0)) := hc k (by omega)
    have e1 : wr.cell? ⟨b, o + (k + 1), none⟩ = some (.int .i64 (segs.getD (k + 1) 0)) := hc (k + 1) (by omega)
    have t1 := HT1.out k (by omega)
    have t2 := HT2.out k (by omega)
    have NM := Qh (fun X (hX : Below wb.heap.size wb X) => name_any (segs.getD k 0) X (hb0.on hX))
    have HBB := Qh hB
    have HSn : Hid ((segs.take (k + 1)).map nm = (segs.take k).map nm ++ [nm (segs.getD k 0)]) := by
     show _ = _
     rw [List.take_succ_eq_append_getElem (by have := HMM.out; omega), List.map_append, List.getD_eq_getElem?_getD, List.getElem?_eq_getElem (by have := HMM.out; omega)]
     rfl
    have HK := Qh (Qa hk (Qa hkN hlt))
    have HJS := Qh hJs
    have HTT : Hid (k < N → (segs.take N).take (k + 1) = segs.take (k + 1)) := fun h => by rw [List.take_take, Nat.min_eq_left (by omega)]
    obtain ⟨k1, hk1e⟩ : ∃ k1, k1 = k + 1 := ⟨_, rfl⟩
    rw [← hk1e] at hlt3 hk1 hw2 hkn e1 t1 t2 HSn HTT
    have HK1 := Qh hk1e
    clear hk1e
    generalize segs.getD k1 0 = y at e1 t1 t2
    generalize hx : segs.getD k 0 = x at e0 NM HSn
    clear hc hrr hkN hk hJs hNm hlt hB
    have S0 : Below wr.heap.size wr wr.drew := Below.drew Qb
    have HC : Hid (∀ X, Below wr.heap.size wr X → X.cell? ⟨bl, 0, none⟩ = some (.pointer (some ⟨lp, 0, none⟩)) ∧ X.cell? ⟨bs, 0, none⟩ = some (.int .i64 seq) ∧ X.cell? ⟨lp, 2, none⟩ = some (.slice (some ⟨b, o, none⟩) m sc) ∧ X.cell? ⟨b, o + k, none⟩ = some (.int .i64 x) ∧ X.cell? ⟨b, o + k1, none⟩ = some (.int .i64 y)) := fun X hX =>
     ⟨(hX.cell (p := ⟨bl, 0, none⟩) (block_lt_of_cell hcl)).trans hcl, (hX.cell (p := ⟨bs, 0, none⟩) (block_lt_of_cell hcs)).trans hcs, (hX.cell (p := ⟨lp, 2, none⟩) (block_lt_of_cell hc2)).trans hc2, (hX.cell (p := ⟨b, o + k, none⟩) (block_lt_of_cell e0)).trans e0, (hX.cell (p := ⟨b, o + k1, none⟩) (block_lt_of_cell e1)).trans e1⟩
    have SS := HC.out _ S0
    by_cases hgt : seq < y
    · have hgt' : decide (seq < y) = true := decide_eq_true hgt
      gi_wp2_with fail
      refine region_tailF (S := fun X => X.cell? ⟨bl, 0, none⟩ = some (.pointer (some ⟨lp, 0, none⟩)) ∧ X.cell? ⟨bs, 0, none⟩ = some (.int .i64 seq) ∧ X.cell? ⟨lp, 2, none⟩ = some (.slice (some ⟨b, o, none⟩) m sc) ∧ X.cell? ⟨b, o + k, none⟩ = some (.int .i64 x) ∧ X.cell? ⟨b, o + k1, none⟩ = some (.int .i64 y)) [20, 21, 22] (by kernel_rfl) SS (fun hHeld => ?_)
      refine takeF [1,2,3,6,7,9,10,11,20,21,22] (i := 0) (v := ?_) rfl rfl (by kernel_rfl) (by kernel_rfl) (by kernel_rfl) (by kernel_rfl) (fun _ _ _ h => h) (Or.inl ⟨by rfl, ?_⟩) (fun _ => rfl) (by assumption) ?_
      rotate_left
      · intro w hSw
        (try dsimp only at hSw)
        go_simp
        all_goals with_reducible rfl
      try simp only [Act.put, lz]
      refine takeF [2,3,6,7,9,10,11,20,21,22] (i := 1) (v := ?_) rfl rfl (by kernel_rfl) (by kernel_rfl) (by kernel_rfl) (by kernel_rfl) (fun _ _ _ h => h) (Or.inl ⟨by rfl, ?_⟩) (fun _ => rfl) (by assumption) ?_
      rotate_left
      · intro w hSw
        (try dsimp only at hSw)
        go_simp
        all_goals with_reducible rfl
      try simp only [Act.put, lz]
      refine takeF [3,6,7,9,10,11,20,21,22] (i := 2) (v := ?_) rfl rfl (by kernel_rfl) (by kernel_rfl) (by kernel_rfl) (by kernel_rfl) (fun _ _ _ h => h) (Or.inl ⟨by rfl, ?_⟩) (fun _ => rfl) (by assumption) ?_
      rotate_left
      · intro w hSw
        (try dsimp only at hSw)
        go_simp
        all_goals with_reducible rfl
      try simp only [Act.put, lz]
      refine takeF [6,7,9,10,11,20,21,22] (i := 3) (v := ?_) rfl rfl (by kernel_rfl) (by kernel_rfl) (by kernel_rfl) (by kernel_rfl) (fun _ _ _ h => h) (Or.inl ⟨by rfl, ?_⟩) (fun _ => rfl) (by assumption) ?_
      rotate_left
      · intro w hSw
        (try dsimp only at hSw)
        go_simp
        all_goals with_reducible rfl
      try simp only [Act.put, lz]
      refine takeF [5,6,7,9,10,11,20,21,22] (i := 4) (v := ?_) rfl rfl (by kernel_rfl) (by kernel_rfl) (by kernel_rfl) (by kernel_rfl) (fun _ _ _ h => h) (Or.inl ⟨by rfl, ?_⟩) (fun _ => rfl) (by assumption) ?_
      rotate_left
      · intro w hSw
        (try dsimp only at hSw)
        go_simp
        all_goals with_reducible rfl
      try simp only [Act.put, lz]
      refine takeF [6,7,9,10,11,20,21,22] (i := 5) (v := ?_) rfl rfl (by kernel_rfl) (by kernel_rfl) (by kernel_rfl) (by kernel_rfl) (fun _ _ _ h => h) (Or.inl ⟨by rfl, ?_⟩) (fun _ => rfl) (by assumption) ?_
      rotate_left
      · intro w hSw
        (try dsimp only at hSw)
        go_simp
        all_goals with_reducible rfl
      try simp only [Act.put, lz]
      refine takeF [7,9,10,11,20,21,22] (i := 6) (v := ?_) rfl rfl (by kernel_rfl) (by kernel_rfl) (by kernel_rfl) (by kernel_rfl) (fun _ _ _ h => h) (Or.inl ⟨by rfl, ?_⟩) (fun _ => rfl) (by assumption) ?_
      rotate_left
      · intro w hSw
        (try dsimp only at hSw)
        go_simp
        all_goals with_reducible rfl
      try simp only [Act.put, lz]
      refine takeF [9,10,11,20,21,22] (i := 7) (v := ?_) rfl rfl (by kernel_rfl) (by kernel_rfl) (by kernel_rfl) (by kernel_rfl) (fun _ _ _ h => h) (Or.inl ⟨by rfl, ?_⟩) (fun _ => rfl) (by assumption) ?_
      rotate_left
      · intro w hSw
        (try dsimp only at hSw)
        go_simp
        all_goals with_reducible rfl
      try simp only [Act.put, lz]
      refine takeF [9,10,11,20,21,22] (i := 8) (v := ?_) rfl rfl (by kernel_rfl) (by kernel_rfl) (by kernel_rfl) (by kernel_rfl) (fun _ _ _ h => h) (Or.inl ⟨by rfl, ?_⟩) (fun _ => rfl) (by assumption) ?_
      rotate_left
      · intro w hSw
        (try dsimp only at hSw)
        go_simp
        all_goals with_reducible rfl
      try simp only [Act.put, lz]
      refine takeF [10,11,20,21,22] (i := 9) (v := ?_) rfl rfl (by kernel_rfl) (by kernel_rfl) (by kernel_rfl) (by kernel_rfl) (fun _ _ _ h => h) (Or.inl ⟨by rfl, ?_⟩) (fun _ => rfl) (by assumption) ?_
      rotate_left
      · intro w hSw
        (try dsimp only at hSw)
        go_simp
        all_goals with_reducible rfl
      try simp only [Act.put, lz]
      refine takeF [11,20,21,22] (i := 10) (v := ?_) rfl rfl (by kernel_rfl) (by kernel_rfl) (by kernel_rfl) (by kernel_rfl) (fun _ _ _ h => h) (Or.inl ⟨by rfl, ?_⟩) (fun _ => rfl) (by assumption) ?_
      rotate_left
      · intro w hSw
        (try dsimp only at hSw)
        go_simp
        all_goals with_reducible rfl
      try simp only [Act.put, lz]
      refine takeF [20,21,22] (i := 11) (v := undef) rfl rfl (by kernel_rfl) (by kernel_rfl) (by kernel_rfl) (by kernel_rfl) (fun _ _ _ h => h) (Or.inr ⟨by rfl, rfl⟩) (fun _ => rfl) (by assumption) ?_
      try simp only [Act.put, lz]
      refine takeF [13,14,15,17,18,19,20,21,22] (i := 12) (v := undef) rfl rfl (by kernel_rfl) (by kernel_rfl) (by kernel_rfl) (by kernel_rfl) (fun _ _ _ h => h) (Or.inr ⟨by rfl, rfl⟩) (fun _ => rfl) (by assumption) ?_
      try simp only [Act.put, lz]
      refine takeF [14,15,17,18,19,20,21,22] (i := 13) (v := undef) rfl rfl (by kernel_rfl) (by kernel_rfl) (by kernel_rfl) (by kernel_rfl) (fun _ _ _ h => h) (Or.inr ⟨by rfl, rfl⟩) (fun _ => rfl) (by assumption) ?_
      try simp only [Act.put, lz]
      refine takeF [15,17,18,19,20,21,22] (i := 14) (v := undef) rfl rfl (by kernel_rfl) (by kernel_rfl) (by kernel_rfl) (by kernel_rfl) (fun _ _ _ h => h) (Or.inr ⟨by rfl, rfl⟩) (fun _ => rfl) (by assumption) ?_
      try simp only [Act.put, lz]
      refine takeF [17,18,19,20,21,22] (i := 15) (v := undef) rfl rfl (by kernel_rfl) (by kernel_rfl) (by kernel_rfl) (by kernel_rfl) (fun _ _ _ h => h) (Or.inr ⟨by rfl, rfl⟩) (fun _ => rfl) (by assumption) ?_
      try simp only [Act.put, lz]
      refine takeF [17,18,19,20,21,22] (i := 16) (v := undef) rfl rfl (by kernel_rfl) (by kernel_rfl) (by kernel_rfl) (by kernel_rfl) (fun _ _ _ h => h) (Or.inr ⟨by rfl, rfl⟩) (fun _ => rfl) (by assumption) ?_
      try simp only [Act.put, lz]
      refine takeF [18,19,20,21,22] (i := 17) (v := undef) rfl rfl (by kernel_rfl) (by kernel_rfl) (by kernel_rfl) (by kernel_rfl) (fun _ _ _ h => h) (Or.inr ⟨by rfl, rfl⟩) (fun _ => rfl) (by assumption) ?_
      try simp only [Act.put, lz]
      refine takeF [19,20,21,22] (i := 18) (v := undef) rfl rfl (by kernel_rfl) (by kernel_rfl) (by kernel_rfl) (by kernel_rfl) (fun _ _ _ h => h) (Or.inr ⟨by rfl, rfl⟩) (fun _ => rfl) (by assumption) ?_
      try simp only [Act.put, lz]
      refine heldF.one (i := 19) (by kernel_rfl) rfl (fun K hK => ?_)
      refine ite_no (by rfl) ⟨fun _ _ => trivial, ?_⟩
      refine hK.out _ _ (.inl hHeld) ?_
      clear hK K
      refine heldF.one (i := 20) (by kernel_rfl) rfl (fun K hK => ?_)
      refine ite_no (by rfl) ⟨fun _ _ => trivial, ?_⟩
      refine hK.out _ _ (.inr (by decide)) ?_
      clear hK K
      refine heldF.one (i := 21) (by kernel_rfl) rfl (fun K hK => ?_)
      refine ite_no (by rfl) ⟨fun _ _ => trivial, ?_⟩
      refine hK.out _ _ (.inr (by decide)) ?_
      clear hK K
      refine heldF.one (i := 22) (by kernel_rfl) rfl (fun K hK => ?_)
      refine ite_yes (by rfl) ?_
      gi_wp2_with fail
      refine hK.out _ _ (.inr (by decide)) ?_
      clear hK K
      refine heldF.done (by kernel_rfl) ?_ _
      have eN : N = k := by have h1 := HK.out.2.1; have := t1; omega
      have HE := Qh eN
      clear t1 t2 eN hHeld SS
      gi_wp2
      refine bodyPost_ret (results_none rfl _ _ _) rfl ?_
      exact ⟨⟨_, rfl⟩, .inl ⟨_, d, by rw [HY.out.2.2.2, HE.out], HY.out.1 _ _ _ _ HJS.out S0⟩⟩
    have hgt' : decide (seq < y) = false := decide_eq_false hgt
    have HG : Hid (k < N) := by
     show k < N
     have h1 := HK.out.2.1
     rcases Nat.lt_or_ge k N with h2 | h2
     · exact h2
     exact absurd (t2 (by omega)) hgt
    have HTT := Qh (HTT.out HG.out)
    gi_wp2_with fail
    refine region_tailF (S := fun X => Below wr.heap.size wr X ∧ X.cell? ⟨bl, 0, none⟩ = some (.pointer (some ⟨lp, 0, none⟩)) ∧ X.cell? ⟨bs, 0, none⟩ = some (.int .i64 seq) ∧ X.cell? ⟨lp, 2, none⟩ = some (.slice (some ⟨b, o, none⟩) m sc) ∧ X.cell? ⟨b, o + k, none⟩ = some (.int .i64 x) ∧ X.cell? ⟨b, o + k1, none⟩ = some (.int .i64 y)) [20, 21, 22] (by kernel_rfl) ⟨S0, SS⟩ (fun hHeld => ?_)
    refine takeF [1,2,3,6,7,9,10,11,20,21,22] (i := 0) (v := ?_) rfl rfl (by kernel_rfl) (by kernel_rfl) (by kernel_rfl) (by kernel_rfl) (fun _ _ _ h => h) (Or.inl ⟨by rfl, ?_⟩) (fun _ => rfl) (by assumption) ?_
    rotate_left
    · intro w hSw
      (try dsimp only at hSw)
      go_simp
      all_goals with_reducible rfl
    try simp only [Act.put, lz]
    refine takeF [2,3,6,7,9,10,11,20,21,22] (i := 1) (v := ?_) rfl rfl (by kernel_rfl) (by kernel_rfl) (by kernel_rfl) (by kernel_rfl) (fun _ _ _ h => h) (Or.inl ⟨by rfl, ?_⟩) (fun _ => rfl) (by assumption) ?_
    rotate_left
    · intro w hSw
      (try dsimp only at hSw)
      go_simp
      all_goals with_reducible rfl
    try simp only [Act.put, lz]
    refine takeF [3,6,7,9,10,11,20,21,22] (i := 2) (v := ?_) rfl rfl (by kernel_rfl) (by kernel_rfl) (by kernel_rfl) (by kernel_rfl) (fun _ _ _ h => h) (Or.inl ⟨by rfl, ?_⟩) (fun _ => rfl) (by assumption) ?_
    rotate_left
    · intro w hSw
      (try dsimp only at hSw)
      go_simp
      all_goals with_reducible rfl
    try simp only [Act.put, lz]
    refine takeF [6,7,9,10,11,20,21,22] (i := 3) (v := ?_) rfl rfl (by kernel_rfl) (by kernel_rfl) (by kernel_rfl) (by kernel_rfl) (fun _ _ _ h => h) (Or.inl ⟨by rfl, ?_⟩) (fun _ => rfl) (by assumption) ?_
    rotate_left
    · intro w hSw
      (try dsimp only at hSw)
      go_simp
      all_goals with_reducible rfl
    try simp only [Act.put, lz]
    refine takeF [5,6,7,9,10,11,20,21,22] (i := 4) (v := ?_) rfl rfl (by kernel_rfl) (by kernel_rfl) (by kernel_rfl) (by kernel_rfl) (fun _ _ _ h => h) (Or.inl ⟨by rfl, ?_⟩) (fun _ => rfl) (by assumption) ?_
    rotate_left
    · intro w hSw
      (try dsimp only at hSw)
      go_simp
      all_goals with_reducible rfl
    try simp only [Act.put, lz]
    refine takeF [6,7,9,10,11,20,21,22] (i := 5) (v := ?_) rfl rfl (by kernel_rfl) (by kernel_rfl) (by kernel_rfl) (by kernel_rfl) (fun _ _ _ h => h) (Or.inl ⟨by rfl, ?_⟩) (fun _ => rfl) (by assumption) ?_
    rotate_left
    · intro w hSw
      (try dsimp only at hSw)
      go_simp
      all_goals with_reducible rfl
    try simp only [Act.put, lz]
    refine takeF [7,9,10,11,20,21,22] (i := 6) (v := ?_) rfl rfl (by kernel_rfl) (by kernel_rfl) (by kernel_rfl) (by kernel_rfl) (fun _ _ _ h => h) (Or.inl ⟨by rfl, ?_⟩) (fun _ => rfl) (by assumption) ?_
    rotate_left
    · intro w hSw
      (try dsimp only at hSw)
      go_simp
      all_goals with_reducible rfl
    try simp only [Act.put, lz]
    refine takeF [9,10,11,20,21,22] (i := 7) (v := ?_) rfl rfl (by kernel_rfl) (by kernel_rfl) (by kernel_rfl) (by kernel_rfl) (fun _ _ _ h => h) (Or.inl ⟨by rfl, ?_⟩) (fun _ => rfl) (by assumption) ?_
    rotate_left
    · intro w hSw
      (try dsimp only at hSw)
      go_simp
      all_goals with_reducible rfl
    try simp only [Act.put, lz]
    refine takeF [9,10,11,20,21,22] (i := 8) (v := ?_) rfl rfl (by kernel_rfl) (by kernel_rfl) (by kernel_rfl) (by kernel_rfl) (fun _ _ _ h => h) (Or.inl ⟨by rfl, ?_⟩) (fun _ => rfl) (by assumption) ?_
    rotate_left
    · intro w hSw
      (try dsimp only at hSw)
      go_simp
      all_goals with_reducible rfl
    try simp only [Act.put, lz]
    refine takeF [10,11,20,21,22] (i := 9) (v := ?_) rfl rfl (by kernel_rfl) (by kernel_rfl) (by kernel_rfl) (by kernel_rfl) (fun _ _ _ h => h) (Or.inl ⟨by rfl, ?_⟩) (fun _ => rfl) (by assumption) ?_
    rotate_left
    · intro w hSw
      (try dsimp only at hSw)
      go_simp
      all_goals with_reducible rfl
    try simp only [Act.put, lz]
    refine takeF [11,20,21,22] (i := 10) (v := ?_) rfl rfl (by kernel_rfl) (by kernel_rfl) (by kernel_rfl) (by kernel_rfl) (fun _ _ _ h => h) (Or.inl ⟨by rfl, ?_⟩) (fun _ => rfl) (by assumption) ?_
    rotate_left
    · intro w hSw
      (try dsimp only at hSw)
      go_simp
      all_goals with_reducible rfl
    try simp only [Act.put, lz]
    refine takeF [20,21,22] (i := 11) (v := ?_) rfl rfl (by kernel_rfl) (by kernel_rfl) (by kernel_rfl) (by kernel_rfl) (fun _ _ _ h => h) (Or.inl ⟨by rfl, ?_⟩) (fun _ => rfl) (by assumption) ?_
    rotate_left
    · intro w hSw
      (try dsimp only at hSw)
      go_simp
      all_goals with_reducible rfl
    try simp only [Act.put, lz]
    refine takeF [13,14,15,17,18,19,20,21,22] (i := 12) (v := ?_) rfl rfl (by kernel_rfl) (by kernel_rfl) (by kernel_rfl) (by kernel_rfl) (fun _ _ _ h => h) (Or.inl ⟨by rfl, ?_⟩) (fun _ => rfl) (by assumption) ?_
    rotate_left
    · intro w hSw
      (try dsimp only at hSw)
      go_simp
      all_goals with_reducible rfl
    try simp only [Act.put, lz]
    refine takeF [14,15,17,18,19,20,21,22] (i := 13) (v := ?_) rfl rfl (by kernel_rfl) (by kernel_rfl) (by kernel_rfl) (by kernel_rfl) (fun _ _ _ h => h) (Or.inl ⟨by rfl, ?_⟩) (fun _ => rfl) (by assumption) ?_
    rotate_left
    · intro w hSw
      (try dsimp only at hSw)
      go_simp
      all_goals with_reducible rfl
    try simp only [Act.put, lz]
    refine takeF [15,17,18,19,20,21,22] (i := 14) (v := ?_) rfl rfl (by kernel_rfl) (by kernel_rfl) (by kernel_rfl) (by kernel_rfl) (fun _ _ _ h => h) (Or.inl ⟨by rfl, ?_⟩) (fun _ => rfl) (by assumption) ?_
    rotate_left
    · intro w hSw
      (try dsimp only at hSw)
      go_simp
      all_goals with_reducible rfl
    try simp only [Act.put, lz]
    refine takeF [17,18,19,20,21,22] (i := 15) (v := ?_) rfl rfl (by kernel_rfl) (by kernel_rfl) (by kernel_rfl) (by kernel_rfl) (fun _ _ _ h => h) (Or.inl ⟨by rfl, ?_⟩) (fun _ => rfl) (by assumption) ?_
    rotate_left
    · intro w hSw
      (try dsimp only at hSw)
      go_simp
      all_goals with_reducible rfl
    try simp only [Act.put, lz]
    refine takeF [17,18,19,20,21,22] (i := 16) (v := ?_) rfl rfl (by kernel_rfl) (by kernel_rfl) (by kernel_rfl) (by kernel_rfl) (fun _ _ _ h => h) (Or.inl ⟨by rfl, ?_⟩) (fun _ => rfl) (by assumption) ?_
    rotate_left
    · intro w hSw
      (try dsimp only at hSw)
      go_simp
      all_goals with_reducible rfl
    try simp only [Act.put, lz]
    refine takeF [18,19,20,21,22] (i := 17) (v := ?_) rfl rfl (by kernel_rfl) (by kernel_rfl) (by kernel_rfl) (by kernel_rfl) (fun _ _ _ h => h) (Or.inl ⟨by rfl, ?_⟩) (fun _ => rfl) (by assumption) ?_
    rotate_left
    · intro w hSw
      (try dsimp only at hSw)
      go_simp
      all_goals with_reducible rfl
    try simp only [Act.put, lz]
    refine takeF [19,20,21,22] (i := 18) (v := ?_) rfl rfl (by kernel_rfl) (by kernel_rfl) (by kernel_rfl) (by kernel_rfl) (fun _ _ _ h => h) (Or.inl ⟨by rfl, ?_⟩) (fun _ => rfl) (by assumption) ?_
    rotate_left
    · intro w hSw
      (try dsimp only at hSw)
      go_simp
      all_goals with_reducible rfl
    try simp only [Act.put, lz]
    refine heldF.one (i := 19) (by kernel_rfl) rfl (fun K hK => ?_)
    refine ite_yes (by rfl) ?_
    gi_wp2_with fail
    refine ⟨trivial, (callsIn_wide.2 (NM.out _ (HBB.out.trans (S0.mono HBB.out.size)))).mono ?_⟩
    rintro e w2 ⟨rfl, b2⟩
    have S2 : Below wr.heap.size wr w2 := S0.trans (b2.mono S0.size)
    have SS2 := HC.out _ S2
    refine hK.out _ _ (.inl ⟨S2, SS2⟩) ?_
    clear hK K
    have hJ2 := HY.out.1 _ _ _ _ HJS.out S2
    have hpost : names = ((segs.take k).map nm ++ [nm x]) ++ ((segs.take N).drop k1).map nm := by
     rw [HY.out.2.2.2, ← HSn.out, ← List.map_append]; congr 1; rw [← HTT.out, List.take_append_drop]
    obtain ⟨fn, tmps, assign, body, hy, hR⟩ := HY.out.2.2.1 _ d (nm x) w2 hJ2 ⟨by show _ ≤ _; have := nm_le11 x; omega, _, hpost⟩
    have HP := Qh hpost
    clear hpost
    simp only [encS] at hy
    have HR := Qh hR
    clear hR hJ2
    refine heldF.one (i := 20) (by kernel_rfl) rfl (fun K hK => ?_)
    refine ite_yes (by rfl) ?_
    gi_wp2_with fail
    refine HR.out.mono ?_
    rintro e Y (⟨rfl, d', hJ4, _⟩ | ⟨rfl, hJx4⟩)
    · have H4 := Qh hJ4
      clear hJ4 HR hy hHeld
      try simp only []
      refine hK.out _ _ (.inr (by decide)) ?_
      clear hK K
      try simp only [Act.put, lz]
      refine heldF.one (i := 21) (by kernel_rfl) rfl (fun K hK => ?_)
      refine ite_yes (by rfl) ?_
      gi_wp2_with fail
      refine hK.out _ _ (.inr (by decide)) ?_
      clear hK K
      refine heldF.one (i := 22) (by kernel_rfl) rfl (fun K hK => ?_)
      refine ite_yes (by rfl) ?_
      gi_wp2_with fail
      refine hK.out _ _ (.inr (by decide)) ?_
      clear hK K
      refine heldF.done (by kernel_rfl) ?_ _
      clear SS2 SS t1 t2
      gi_wp2
      go_roundw
      case rel => exact ⟨k1, d', by have := HK.out; have := HK1.out; omega, by have := HK.out; have := HK1.out; have := HG.out; omega, by go_num, by rw [HSn.out] at *; exact H4.out⟩
      case measure => have := HK.out; have := HK1.out; simp [intOf]; omega
    have H4 := Qh hJx4
    clear hJx4 HR hy hHeld
    try simp only []
    refine hK.out _ _ (.inr (by decide)) ?_
    clear hK K
    try simp only [Act.put, lz]
    refine heldF.one (i := 21) (by kernel_rfl) rfl (fun K hK => ?_)
    refine ite_yes (by rfl) ?_
    gi_wp2_with fail
    refine hK.out _ _ (.inr (by decide)) ?_
    clear hK K
    refine heldF.one (i := 22) (by kernel_rfl) rfl (fun K hK => ?_)
    refine ite_yes (by rfl) ?_
    gi_wp2_with fail
    refine hK.out _ _ (.inr (by decide)) ?_
    clear hK K
    refine heldF.done (by kernel_rfl) ?_ _
    clear SS2 SS t1 t2
    gi_wp2
    refine bodyPost_ret (results_none rfl _ _ _) rfl ?_
    exact ⟨⟨_, rfl⟩, .inr ⟨_, ⟨((segs.take N).drop k1).map nm, HP.out⟩, H4.out⟩⟩
  have ek : k = m - 1 := by omega
  have hn1 : ¬ (k : Int) < ((m - 1 : Nat) : Int) := by omega
  have eN : N = k := by omega
  have HE := Qh (Qa hJs eN)
  clear hJs hrr ek eN
  gi_wp2
  go_end0
  exact ⟨⟨_, rfl⟩, .inl ⟨d, by rw [HY.out.2.2.2, HE.out.2]; exact HE.out.1⟩⟩
end
section
open Go.RowKit Go.Sort Go.Maps Go.Shelf
attribute [local go_sem] Oper.semAt_some
abbrev strVs (l : List (List UInt8)) : List Value := l.map fun s => .string ⟨s.toArray⟩
theorem info_strY : (Tryz.prog.info? 9).map (fun i => (i.zero, i.size, i.bytes)) = some (some (.string ⟨#[]⟩), 1, 16) := by kernel_rfl
theorem OwnV.onY {X Y : World} {base : Nat} {e : TypeId} {v : Value} {us : List Value} (h : OwnV X base e v us) (hb : Below X.heap.size X Y) : OwnV Y base e v us :=
 World.ownsRow.kept (row := none) h ⟨hb.os, hb.tape, hb.output, hb.size, fun k hk _ => hb.block k hk⟩ (by cases v.ownBlock <;> simp)
theorem OwnV.putY {X : World} {base b : Nat} {e : TypeId} {v : Value} {us : List Value} (h : OwnV X base e v us) (o : Obj) (hb : b < base) : OwnV (X.putObj b o) base e v us :=
 World.ownsRow.kept (row := some b) h ⟨rfl, rfl, rfl, by simp [World.putObj], fun k _ hk => World.putObj_heap_other (fun e => hk (by rw [e]))⟩ (.inr (fun e => by
  have := (World.ownsRow.lt h b e).1; omega))
theorem OwnV.setY {X : World} {base : Nat} {p : Addr} {e : TypeId} {v u : Value} {us : List Value} (h : OwnV X base e v us) (hb : p.block < base) : OwnV (X.setCell p u) base e v us :=
 World.ownsRow.kept (row := some p.block) h ⟨rfl, rfl, rfl, by simp, fun k _ hk => Below.heap_setCell _ _ _ _ (fun e => hk (by rw [e]))⟩ (.inr (fun e => by
  have := (World.ownsRow.lt h p.block e).1; omega))
def ApS (w : World) (pre : List (List UInt8)) (_ : Unit) (X : World) : Prop :=
 ∃ v, X.heap[w.heap.size]? = some (.cells #[v] 63 (0, 0)) ∧ OwnV X (w.heap.size + 3) 9 v (strVs pre) ∧ Below w.heap.size w X
theorem ApS.on {w X Y : World} {pre : List (List UInt8)} {d : Unit} (h : ApS w pre d X) (hb : Below X.heap.size X Y) : ApS w pre d Y := by
 obtain ⟨v, h1, h2, h3⟩ := h
 exact ⟨v, (hb.block _ (lt_of_heap h1)).trans h1, h2.onY hb, h3.trans (hb.mono h3.size)⟩
theorem below_putObj {w X : World} {B b : Nat} (h : Below B w X) (o : Obj) (hb : B ≤ b) : Below B w (X.putObj b o) :=
 ⟨h.os, h.tape, h.output, by have := h.size; simpa [World.putObj] using this, fun k hk => (World.putObj_heap_other (by omega)).trans (h.block k hk)⟩
theorem ApS.put {w X : World} {pre : List (List UInt8)} {d : Unit} (h : ApS w pre d X) (o : Obj) (b : Nat) (h1 : w.heap.size + 1 ≤ b) (h2 : b ≤ w.heap.size + 2) : ApS w pre d (X.putObj b o) := by
 obtain ⟨v, k1, k2, k3⟩ := h
 exact ⟨v, (World.putObj_heap_other (by omega)).trans k1, k2.putY o (by omega), below_putObj k3 o (by omega)⟩
theorem ownsRow_slice {w : World} {base s n : Nat} {e : TypeId} {v : Value} {us : List Value} (h : w.ownsRow base e s v n us) : ∃ a n c, v = .slice a n c := by
 rcases h.2 with ⟨h1, _⟩ | ⟨g, cap, cur, h1, _⟩
 · exact ⟨_, _, _, h1⟩
 exact ⟨_, _, _, h1⟩
theorem cell_one {w : World} {a : Addr} {u : Value} (h : w.cell? a = some u) : ∀ j x, [u][j]? = some x → w.cell? (a.add j) = some x := fun j x hj => by
 cases j with
 | zero => simp at hj; subst hj; exact h
 | succ j => simp at hj
theorem appendSeq_any {w : World} (gf : FuncId) (lb : Array Value) (names : List (List UInt8)) (hlen : names.length ≤ 1000)
 (hgf : ∀ args x, (callFunc gf args).run Tryz.prog x = .ok (.enter gf args) x)
 (hit : ∀ W, TellsV Fence.wide 11 Tryz.prog gf lb encS (fun pre x => shortS x ∧ ∃ post, names = (pre ++ [x]) ++ post) (fun _ (_ : Unit) X => Below w.heap.size w X) (fun _ _ _ _ => True) (· = names) (fun pre => ∃ post, names = pre ++ post) W) :
 Calls Tryz.prog 129 #[.slice none 0 0, .func (.func gf) #[] lb] w fun e w' => ∃ v, e = .returned v ∧ OwnV w' (w.heap.size + 3) 9 v (strVs names) ∧ Below w.heap.size w w' := by
 refine (callsIn_wide (n := 12)).1 ?_
 refine callsIn_of_wp_marks Tryz.func129 rfl trivial ?_ rfl
 simp only [Tryz.ntmps129, List.size_toArray, List.length_cons, List.length_nil, Nat.reduceAdd, Nat.reduceSub, Array.replicate_succ, Array.replicate_zero, List.push_toArray, List.append_toArray, List.nil_append, List.cons_append]
 obtain ⟨W0, hW0⟩ : ∃ W0, W0 = w.alloc (.cells #[.slice none 0 0] 63) := ⟨_, rfl⟩
 have hB0 : Below w.heap.size w W0 := by rw [hW0]; exact (Below.refl _ w).alloc Qn _
 have hs0 : W0.heap.size = w.heap.size + 1 := by rw [hW0]; simp
 have hb0 : W0.heap[w.heap.size]? = some (.cells #[.slice none 0 0] 63 (0, 0)) := by rw [hW0]; exact heap_alloc_new _ _
 have hit0 := hit W0
 have HW0 := Qh hW0
 have HH := Qh (Qa hB0 (Qa hs0 hb0))
 clear hW0 hB0 hs0 hb0 hit
 gi_wp2_with fail
 rw [← HW0.out]
 refine range_tellsV rfl (by omega) (gf := gf) (lb := lb) rfl trivial hgf hit0 (fun _ => rfl) (ApS w)
  (fun _ _ _ => False) () (fun pre d X Y h hb => h.on hb) ?hI2 (fun _ _ _ _ _ _ _ => trivial) (fun _ _ _ _ _ h _ => h) (fun pre d X h => by obtain ⟨_, _, _, h3⟩ := h; exact h3) ?h0 (fun x => { tmps := #[.slice none 0 0, .func (.func gf) #[] lb, .pointer (some ⟨w.heap.size, 0, none⟩), undef, .slice none 0 0, .string ⟨x.toArray⟩, .func (.func gf) #[] lb, .string ⟨x.toArray⟩, undef, undef, undef, undef, undef], defers := [] }) ?assign ?body ?done ?stop
 case hI2 =>
  intro pre d X r o h _
  exact h.put o _ (by have := HH.out.2.1; omega) (by have := HH.out.2.1; omega)
 case h0 => exact ⟨_, HH.out.2.2, OwnV.nil_ _ _ _, HH.out.1⟩
 case assign =>
  intro l pre d x W K hI hM hK
  simp only [encS]
  gi_wp2
  exact hK
 case body =>
  rintro l pre d x W ⟨v, k1, k2, k3⟩ ⟨_, post, hpost⟩ hsz
  obtain ⟨i0, hi, hz0, hz1, hz2⟩ := info_parts info_strY
  have hpl : pre.length + 1 ≤ 1000 := by
   have := congrArg List.length hpost
   simp at this
   omega
  have hc : W.cell? ⟨w.heap.size, 0, none⟩ = some v := cell_of_one k1
  obtain ⟨Wa, hWa⟩ : ∃ Wa, Wa = W.alloc (.cells #[.string ⟨x.toArray⟩] 9) := ⟨_, rfl⟩
  have ho : Wa.ownsRow (w.heap.size + 3) 9 1 v pre.length (strVs pre) := by
   rw [hWa]
   have := World.ownsRow.alloc k2 (.cells #[.string ⟨x.toArray⟩] 9)
   rwa [show (strVs pre).length = pre.length from by simp] at this
  have hcn : Wa.cell? ⟨W.heap.size, 0, none⟩ = some (.string ⟨x.toArray⟩) := by rw [hWa]; exact cell_of_one (heap_alloc_new _ _)
  have hsa : Wa.heap.size = W.heap.size + 1 := by rw [hWa]; simp
  have hba : Below w.heap.size w Wa := by rw [hWa]; exact k3.alloc k3.size _
  have hwa : Below W.heap.size W Wa := by rw [hWa]; exact Qb.alloc Qn _
  have HA := Qh (Qa ho (Qa hcn (Qa hsa (Qa hba (Qa hwa (Qa k1 hsz))))))
  have HW := Qh hWa
  clear k1 k2 k3 hpost hWa ho hcn hsa hba hwa
  gi_wp2_with (first
   | (gi_at_builtin; rw [← HW.out]; refine wpListIn_append_own _ rfl _ _ 63 rfl (w.heap.size + 3) 9 i0 (.string ⟨#[]⟩) 1 16 Tryz.underlying63 hi hz0 hz1 hz2 rfl (by decide) v pre.length (strVs pre) rfl HA.out.1 ⟨W.heap.size, 0, none⟩ 1 1 [.string ⟨x.toArray⟩] rfl rfl (cell_one HA.out.2.1) (by simp [Value.oneCell']) (by unfold maxLen; omega) (by omega) (by have := HA.out.2.2.1; have := HA.out.2.2.2.2.2.2; have := HH.out.2.1; omega) ?_; intro v5 w5 ho5 hg5 _; (obtain ⟨a5, n5, c5, hv5⟩ := ownsRow_slice ho5); (subst hv5); (have hk5 : ∀ k, k < Wa.heap.size → k < w.heap.size + 3 → w5.heap[k]? = Wa.heap[k]? := fun k h1 h2 => hg5.block k h1 (fun e => by have := (World.ownsRow.lt HA.out.1 k e.symm).1; omega)); (have hbx : w5.heap[w.heap.size]? = some (.cells #[v] 63 (0, 0)) := (hk5 _ (by have := HA.out.2.2.1; have := HA.out.2.2.2.2.2.2; have := HH.out.2.1; omega) (by omega)).trans ((HA.out.2.2.2.2.1.block _ (lt_of_heap HA.out.2.2.2.2.2.1)).trans HA.out.2.2.2.2.2.1)); (have hc5 := cell_of_one hbx); (have hf5 := frozen_of_row _ _ 0 _ _ hbx); (have H5 := Qh (Qa ho5 (Qa hg5 (Qa hk5 hbx)))); clear ho5 hg5 hk5 hbx))
  have hz5 : Wa.heap.size ≤ w5.heap.size := H5.out.2.1.size
  have hzz : W.heap.size + 1 = Wa.heap.size := HA.out.2.2.1.symm
  have hzw := HA.out.2.2.2.2.2.2
  have hz0 := HH.out.2.1
  have keep : ∀ k, W0.heap.size ≤ k → k ≤ W0.heap.size + 1 → (w5.setCell ⟨w.heap.size, 0, none⟩ (.slice a5 n5 c5)).heap[k]? = W.heap[k]? := fun k h1 h2 =>
   (Below.heap_setCell _ _ _ _ (by show k ≠ w.heap.size; omega)).trans ((H5.out.2.2.1 k (by omega) (by omega)).trans (HA.out.2.2.2.2.1.block k (by omega)))
  refine ⟨⟨keep _ (by omega) (by omega), keep _ (by omega) (by omega)⟩, (), ⟨.slice a5 n5 c5, ?_, ?_, ?_⟩, trivial⟩
  · exact heap_setCell_same _ _ 0 _ _ _ H5.out.2.2.2
  · have h1 : OwnV w5 (w.heap.size + 3) 9 (.slice a5 n5 c5) (strVs (pre ++ [x])) := by
     unfold OwnV
     have h2 := H5.out.1
     rw [show (strVs (pre ++ [x])) = strVs pre ++ [.string ⟨x.toArray⟩] from by simp, List.length_append]
     rw [show (strVs pre).length = pre.length from by simp]
     exact h2
    exact h1.setY (by show w.heap.size < _; omega)
  have h3 : Below w.heap.size w w5 := HA.out.2.2.2.1.grown H5.out.2.1 HA.out.2.2.2.1.size (fun k e => by have := (World.ownsRow.lt HA.out.1 k e).1; omega)
  exact h3.setCell (p := ⟨w.heap.size, 0, none⟩) Qn _
 case done =>
  rintro xs d W rfl ⟨v, k1, k2, k3⟩ hK
  have hc : W.cell? ⟨w.heap.size, 0, none⟩ = some v := cell_of_one k1
  have HU := Qh (Qa k2 (Qa k3 hK))
  clear k1 k2 k3 hK
  gi_wp2
  refine ⟨by simp, .inl ⟨_, _, rfl, run_takeDeferred HU.out.2.2, ?_⟩⟩
  have z0 := HH.out.2.1
  refine ⟨v, by simp [results, Tryz.results129, go_sem], v, rfl, HU.out.1.putY _ (by omega), below_putObj HU.out.2.1 _ (by omega)⟩
 case stop =>
  rintro c pre W _ h _
  exact h.elim
theorem collect_any {w : World} (gf : FuncId) (lb : Array Value) (names : List (List UInt8)) (hlen : names.length ≤ 1000)
 (hgf : ∀ args x, (callFunc gf args).run Tryz.prog x = .ok (.enter gf args) x)
 (hit : ∀ W, TellsV Fence.wide 11 Tryz.prog gf lb encS (fun pre x => shortS x ∧ ∃ post, names = (pre ++ [x]) ++ post) (fun _ (_ : Unit) X => Below w.heap.size w X) (fun _ _ _ _ => True) (· = names) (fun pre => ∃ post, names = pre ++ post) W) :
 Calls Tryz.prog 76 #[.func (.func gf) #[] lb] w fun e w' => ∃ v, e = .returned v ∧ OwnV w' (w.heap.size + 3) 9 v (strVs names) ∧ Below w.heap.size w w' := by
 have C := Qh (appendSeq_any gf lb names hlen hgf hit)
 clear hit hgf
 go_enter Tryz.func76, Tryz.ntmps76
 go_wp2_with fail
 refine C.out.mono ?_
 rintro e w1 ⟨v, rfl, h1, h2⟩
 have H := Qh (Qa h1 h2)
 clear h1 h2
 go_wp2
 go_ret
 exact ⟨_, rfl, H.out.1, H.out.2⟩
end
section
open Go.RowKit Go.Sort Go.Maps Go.Shelf
open Crc Frm
open Sgn
attribute [local go_sem] Oper.semAt_some
theorem OwnV.names_ {w : World} {base : Nat} {e : TypeId} {v : Value} {l : List (List UInt8)} (h : OwnV w base e v (strVs l)) :
 ∃ a c, v = .slice a l.length c ∧ Row w w.heap.size a l.length c 1 (nmC l) ∧ ∀ k o, a = some ⟨k, o, none⟩ → base ≤ k ∧ k < w.heap.size := by
 have h0 := h
 have hm : (strVs l).length = l.length := List.length_map _
 rcases h.2 with ⟨h1, h2⟩ | ⟨g, cap, cur, h1, h2, h3, h4, h5, h6⟩
 · subst h1
   have hl : l = [] := by simpa using h2
   subst hl
   exact ⟨none, 0, rfl, ⟨Nat.le_refl _, by simp [maxLen], fun hn => absurd hn (by simp)⟩, fun k o hk => by cases hk⟩
 subst h1
 rw [hm] at h0 h4 ⊢
 refine ⟨_, cap, rfl, ⟨h4, h5, fun _ => ⟨g, 0, rfl, lt_of_heap h3, fun j hj => ?_⟩⟩, fun k o hk => ?_⟩
 · have hj' : j < l.length := by omega
   have h0' : OwnV w base e (.slice (some ⟨g, 0, none⟩) l.length cap) (strVs l) := h0
   have := (h0'.cell (k := j) (u := .string ⟨l[j].toArray⟩) (by simp [hj'])).1
   rw [Nat.zero_add, this]
   simp only [nmC, List.getD_eq_getElem?_getD, List.getElem?_eq_getElem hj']
   rfl
 cases hk
 exact ⟨h2, lt_of_heap h3⟩
section
variable {w0 w : World} {dp lp size : Nat} {g : Lg} {t : St} {D : Nat → Prop} {sa : Option Addr} {sc : Nat}
theorem retain_any (h : LK w0 w dp lp size g t D sa sc) (hL : Laid w0) (hne : g.segs ≠ []) (hlen : g.segs.length ≤ 1000) (seq : Int) :
 Calls Tryz.prog 29 #[.pointer (some ⟨lp, 0, none⟩), .int .i64 seq] w fun e w' => e = .returned (.int .i64 (lgRetain g t seq).1) ∧ LMv w0 w dp lp size (lO D lp sa) (lgRetain g t seq).2.2 (lgRetain g t seq).2.1 w' := by
 refine retain_of h hne hlen seq ?_
 have hbW := behindW_below w lp seq
 have K := h.on hbW
 have hgl := lgGone_lt hne seq
 have hs : (behindW w lp seq).heap.size = w.heap.size + 2 := by simp [behindW]
 have hnl : ((g.segs.take (lgGone g seq)).map nm).length = lgGone g seq := by rw [List.length_map, List.length_take]; omega
 refine (collect_any _ _ ((g.segs.take (lgGone g seq)).map nm) (by rw [hnl]; omega) (fun args x => by simp [go_sem]) (fun W => behind_tells (wb := behindW w lp seq) (lp := lp) (m := g.segs.length) (sc := sc) (sa := sa) g.segs seq ((h.laid hL).on hbW) (by simp [behindW, go_sem]) (by simp [behindW, go_sem]) K.at_.c2 K.at_.row rfl (List.length_pos_iff.2 hne) hlen _ rfl)).mono ?_
 rintro e w' ⟨v, rfl, ho, hb⟩
 obtain ⟨a, c, rfl, hr, hk⟩ := ho.names_
 rw [hnl] at hr ⊢
 exact ⟨a, c, rfl, hr, hb, fun k o e => by have := hk k o e; omega⟩
end
end
section
open Go.RowKit
open Crc Frm
def wrOf (ms : List (Nat × Nat)) : List Nat := ms.flatMap fun m => be m.1 m.2
def numCell (ms : List (Nat × Nat)) (j : Nat) : Value := .int .i64 (((if j % 2 = 0 then (ms.getD (j / 2) (0, 0)).1 else (ms.getD (j / 2) (0, 0)).2 : Nat)) : Int)
theorem wrOf_snoc (ms : List (Nat × Nat)) (m : Nat × Nat) : wrOf (ms ++ [m]) = wrOf ms ++ be m.1 m.2 := by simp [wrOf]
theorem be_take_succ (k n i : Nat) (h : i < k) : (be k n).take (i + 1) = (be k n).take i ++ [n / 256 ^ (k - 1 - i) % 256] := by
 have hg : ∀ (k i : Nat), i < k → (be k n)[i]? = some (n / 256 ^ (k - 1 - i) % 256) := by
  intro k
  induction k with
  | zero => intro i h; omega
  | succ k ih =>
   intro i h
   cases i with
   | zero => simp [be]
   | succ i =>
    simp only [be, List.getElem?_cons_succ]
    rw [ih i (by omega)]
    congr 4
    omega
 rw [List.take_add_one, hg k i h]
 rfl
theorem byte_at (y k : Nat) : (y : Int) / 2 ^ (8 * k) % 256 = ((y / 256 ^ k % 256 : Nat) : Int) := by
 rw [Int.natCast_emod, Int.natCast_ediv, Nat.pow_mul 2 8 k |> fun h => show ((2 : Int) ^ (8 * k)) = ((256 ^ k : Nat) : Int) from by rw [show (256 : Nat) = 2 ^ 8 from rfl, ← h]; simp]
 rfl
theorem wrOf_le : ∀ (ms : List (Nat × Nat)), (∀ m ∈ ms, m.1 ≤ 4) → (wrOf ms).length ≤ 4 * ms.length := by
 intro ms
 induction ms with
 | nil => intro _; simp [wrOf]
 | cons m ms ih =>
  intro h
  have h1 := ih (fun x hx => h x (by simp [hx]))
  have h2 := h m (by simp)
  simp only [wrOf, List.flatMap_cons, List.length_append, be_len, List.length_cons] at *
  omega
theorem wrOf_byte (ms : List (Nat × Nat)) : ∀ c ∈ wrOf ms, c < 256 := by
 intro c hc
 obtain ⟨m, _, h⟩ := List.mem_flatMap.1 hc
 exact be_byte _ _ c h
theorem own_ne {w : World} {base : Nat} {e : TypeId} {v : Value} {bs : List Nat} (h : OwnB w base e v bs) {p : Nat} {cs : Array Value} {t : TypeId} {fr : Nat × Nat} (hp : w.heap[p]? = some (.cells cs t fr)) (hne : e ≠ t) : v.ownBlock ≠ some p := by
 rcases h.2 with ⟨rfl, _⟩ | ⟨g, cap, cur, rfl, _, hh, _⟩
 · simp [Value.ownBlock]
 intro hx
 simp [Value.ownBlock] at hx
 subst hx
 rw [hh] at hp
 injection hp with hp
 injection hp with h1 h2
 exact hne h2
theorem fwrite_any (base : Nat) (v : Value) (bs : List Nat) (ms : List (Nat × Nat)) (n g cap : Nat) (w : World) (hown : OwnB w base 5 v bs) (hbase : base ≤ w.heap.size) (hn : ms.length = n) (hn9 : n ≤ 9)
 (hr : Row w w.heap.size (some ⟨g, 0, none⟩) n cap 2 (numCell ms)) (hg : some g ≠ v.ownBlock) (h4 : ∀ m ∈ ms, m.1 ≤ 4 ∧ m.2 < 4294967296) (hl : bs.length ≤ 1000000) :
 Calls Tryz.prog 122 #[v, .slice (some ⟨g, 0, none⟩) n cap] w fun e w' => ∃ v', e = .returned v' ∧ OwnB w' base 5 v' (bs ++ wrOf ms) ∧ w.grownBy w' v.ownBlock ∧ (v'.ownBlock = v.ownBlock ∨ ∃ b, v'.ownBlock = some b ∧ w.heap.size ≤ b) := by
 go_enter Tryz.func122, Tryz.ntmps122
 go_wp2_with fail
 go_loopw [0, 10] (fun u i wx => ∃ k : Nat, k ≤ n ∧ i = .int .i64 (k : Int) ∧ OwnB wx base 5 u (bs ++ wrOf (ms.take k)) ∧ w.grownBy wx v.ownBlock ∧ (u.ownBlock = v.ownBlock ∨ ∃ b, u.ownBlock = some b ∧ w.heap.size ≤ b)) (fun _ i _ => n - (intOf i).toNat)
 case atStart => exact ⟨0, by omega, rfl, by simpa [wrOf] using hown, World.grownBy.refl _ _, .inl rfl⟩
 case round =>
  obtain ⟨k, hk, rfl, ho, hG, hat⟩ := hrel
  by_cases hlt : k < n
  · obtain ⟨b, o, e0, hb, hc⟩ := hr.at_ (by omega)
    have e1 : b = g := by injection e0 with h; injection h with h1 h2; exact h1.symm
    have e2 : o = 0 := by injection e0 with h; injection h with h1 h2; exact h2.symm
    subst e1 e2
    have hm : ms[k]? = some ms[k] := List.getElem?_eq_getElem (by omega)
    have c1 := hG.cell (hc (k * 2) (by omega)) hg
    have c2 := hG.cell (hc (k * 2 + 1) (by omega)) hg
    rw [show numCell ms (k * 2) = .int .i64 ((ms[k].1 : Nat) : Int) from by unfold numCell; rw [if_pos (by omega), show k * 2 / 2 = k from by omega, List.getD_eq_getElem?_getD, hm]; rfl, Nat.zero_add] at c1
    rw [show numCell ms (k * 2 + 1) = .int .i64 ((ms[k].2 : Nat) : Int) from by unfold numCell; rw [if_neg (by omega), show (k * 2 + 1) / 2 = k from by omega, List.getD_eq_getElem?_getD, hm]; rfl, Nat.zero_add] at c2
    have hb4 := h4 ms[k] (List.getElem_mem _)
    have Hw : Hid (wrOf (ms.take (k + 1)) = wrOf (ms.take k) ++ be ms[k].1 ms[k].2) := by
     show _ = _
     rw [List.take_succ_eq_append_getElem (by omega), wrOf_snoc]
    generalize ms[k].1 = x at c1 hb4 Hw
    generalize ms[k].2 = y at c2 hb4 Hw
    have Ho := Qh (Qa ho (Qa hG hat))
    clear hc ho hG hat
    go_wp2_with fail
    go_loopw [0, 16] (fun u i wx => ∃ j : Nat, j ≤ x ∧ i = .int .i64 (j : Int) ∧ OwnB wx base 5 u (bs ++ wrOf (ms.take k) ++ (be x y).take j) ∧ w.grownBy wx v.ownBlock ∧ (u.ownBlock = v.ownBlock ∨ ∃ b, u.ownBlock = some b ∧ w.heap.size ≤ b) ∧
     wx.heap[wr.heap.size]? = some (.cells #[.int .i64 (x : Int), .int .i64 (y : Int)] 146 (0, 0))) (fun _ i _ => x - (intOf i).toNat)
    case atStart => exact ⟨0, by omega, rfl, by simpa using Ho.out.1.alloc _, Ho.out.2.1.trans (World.grownBy_alloc _ _ _), Ho.out.2.2, heap_alloc_new _ _⟩
    case round =>
     obtain ⟨j, hj, rfl, ho, hG, hat, hp⟩ := hrel
     have k0 := (cell_of_row _ _ 0 _ _ _ hp).trans rfl
     have k1 := (cell_of_row _ _ 1 _ _ _ hp).trans rfl
     by_cases hlt2 : j < x
     · have hby : (y : Int) / 2 ^ (8 * (x - 1 - j)) % 256 = ((y / 256 ^ (x - 1 - j) % 256 : Nat) : Int) := byte_at y (x - 1 - j)
       have hcl : y / 256 ^ (x - 1 - j) % 256 < 256 := Nat.mod_lt _ (by decide)
       have Ht := Qh (be_take_succ x y j hlt2)
       have hlb : (bs ++ wrOf (ms.take k) ++ (be x y).take j).length ≤ 1000000 + 100 := by
        have h1 := wrOf_le (ms.take k) (fun m hm => (h4 m (List.mem_of_mem_take hm)).1)
        have h2 : (ms.take k).length ≤ 9 := by rw [List.length_take]; omega
        rw [List.length_append, List.length_append, List.length_take, be_len]
        omega
       generalize y / 256 ^ (x - 1 - j) % 256 = c at hby hcl Ht
       generalize hB2 : bs ++ wrOf (ms.take k) ++ (be x y).take j = b2 at ho hlb
       have HB2 := Qh hB2
       have Hp := Qh (Qa hG (Qa hat hp))
       have hpl := lt_of_heap hp
       have hwle := hG.size
       clear hB2 hG hat hp Ho
       go_wp2_with (at_builtin; refine wpList_append_sl rfl (.tmp 19) (.tmp 30) _ rfl base _ Tryz.underlying38 info_u8 u0 b2 rfl (ho.alloc _) _ (some ⟨wr.heap.size, 0, none⟩) 1 1 [c] rfl (Sl.one _ _ hcl) (by simp; omega) (by simp; omega) ?_; intro v1 w3 hown1 hg1 hat1)
       obtain ⟨hG, hat, hp⟩ := Hp.out
       have hne1 := own_ne (ho.alloc (.cells #[.int .u8 (c : Int)] 5)) ((heap_alloc_old _ _ hpl).trans hp) (by decide)
       have hp3 := (hg1.block _ (by simp; omega) (Ne.symm hne1)).trans ((heap_alloc_old _ _ hpl).trans hp)
       have hG3 : w.grownBy w3 v.ownBlock := (hG.trans (World.grownBy_alloc _ _ _)).andThen hg1 (fun q hq => by
        rcases hat with h | ⟨b', h, hb'⟩
        · right; rw [← h]; exact hq
        rw [h] at hq; injection hq with hq; left; omega)
       have hat3 : v1.ownBlock = v.ownBlock ∨ ∃ b, v1.ownBlock = some b ∧ w.heap.size ≤ b := by
        rcases hat1 with h | h
        · rw [h]; exact hat
        right; exact ⟨_, h, by simp; omega⟩
       have H3 := Qh (Qa hown1 (Qa hG3 (Qa hat3 hp3)))
       clear hG hat hp hne1 hp3 hG3 hat3 hown1 hg1 hat1 ho
       go_wp2
       obtain ⟨h1, h2, h3, h5⟩ := H3.out
       exact ⟨⟨j + 1, by omega, by go_num, by rw [Ht.out, ← List.append_assoc, HB2.out]; exact h1, h2, h3, h5⟩, by simp [intOf]; omega⟩
     have hjx : j = x := by omega
     subst hjx
     rw [show (be j y).take j = be j y from List.take_of_length_le (by rw [be_len]; omega), List.append_assoc, ← Hw.out] at ho
     have H3 := Qh (Qa ho (Qa hG hat))
     clear ho hG hat hp k0 k1
     go_wp2
     obtain ⟨h1, h2, h3⟩ := H3.out
     exact ⟨⟨k + 1, by omega, by go_num, h1, h2, h3⟩, by simp [intOf]; omega⟩
  have hkn : k = n := by omega
  subst hkn
  rw [List.take_of_length_le (by omega)] at ho
  have H3 := Qh (Qa ho (Qa hG hat))
  clear ho hG hat
  go_wp2
  go_ret
  obtain ⟨h1, h2, h3⟩ := H3.out
  exact ⟨_, rfl, h1, h2, h3⟩
end
end Go.Proofs.YtamblmoedommfaaGreatDoor
