/- PolicyKinds: the walk. -/
import Derived.Test.YtpgjjdpblilljaaPoG
namespace Go.Proofs.Ytpgjjdpblilljaa
set_option linter.unusedSimpArgs false
set_option linter.unusedVariables false
open Go.RowKit
open Evn Plc
attribute [local go_sem] Oper.semAt_some

theorem pnext_l {w : World} (p : Pl) {a1 a2 : Option Addr} {c1 c2 : Nat} (hok : okP p = true) (h1 : PRow w a1 p.bands.length c1 p.bands) (h2 : PRow w a2 p.slots.length c2 p.slots) (s e : Int) (h : Bool) (c u t : Int) (zs ze : Int) (zh : Bool) (n : Int)
    (hz : carry p (s, e, h) u = (zs, ze, zh)) (hn : many p (s, e, h) c u t = n) :
    Calls Try.prog 11 #[plV p a1 a2 c1 c2, .agg #[.int .i64 s, .int .i64 e, .bool h], .int .i64 c, .int .i64 u, .int .i64 t] w fun r w' =>
      r = .returned (.tuple #[.agg #[.int .i64 zs, .int .i64 ze, .bool zh], .int .i64 n]) ∧ Below w.heap.size w w' := by
  have := pnext_any hok h1 h2 s e h c u t
  rw [hz, hn] at this
  exact this
set_option maxRecDepth 100000 in
set_option maxHeartbeats 3200000 in
theorem policyKinds_walk {w : World} {p : Pl} {a1 a2 : Option Addr} {c1 c2 : Nat} (h1 : PRow w a1 p.bands.length c1 p.bands) (h2 : PRow w a2 p.slots.length c2 p.slots) (s e : Int) (h : Bool) (q u t : Int) (hu : 0 ≤ q ∧ q ≤ 65535) :
    Calls Try.prog 5 #[plV p a1 a2 c1 c2, stV s e h, .int .u16 q, .int .i64 u, .int .i64 t] w fun r w' => r = .returned (.bool true) ∧ Below w.heap.size w w' := by
  obtain ⟨C, hC⟩ : ∃ C, q.tmod 1001 = C := ⟨_, rfl⟩
  have hC2 : 0 ≤ C ∧ C ≤ 1000 := by rw [← hC, Int.tmod_eq_emod_of_nonneg hu.1]; have := Int.emod_nonneg q (show (1001 : Int) ≠ 0 by decide); have := Int.emod_lt_of_pos q (show (0 : Int) < 1001 by decide); omega
  have hw1 : IntKind.i64.wrap q = q := by rw [IntKind.wrap_i64]; omega
  have hwC : IntKind.i64.wrap C = C := by rw [IntKind.wrap_i64]; omega
  have HC := Lib.hid hC2
  have hrC : rep C = C := rep_id hC2.1 hC2.2
  have HR := Lib.hid hrC
  clear hC2 hrC hu
  obtain ⟨x, hx⟩ : ∃ x, x = (w.alloc (.cells #[.int .i64 p.kind, .int .i64 p.target, .slice a1 p.bands.length c1, .int .i64 p.kp, .int .i64 p.ki, .int .i64 p.kd, .int .i64 p.period, .slice a2 p.slots.length c2] 25)).alloc (.cells #[.int .i64 s, .int .i64 e, .bool h] 27) := ⟨_, rfl⟩
  have hB : Below w.heap.size w x := by rw [hx]; exact bel1 (bel1 (Below.refl _ _) _) _
  have HP : Hid (PBx x w.heap.size p a1 a2 c1 c2) := by show PBx _ _ _ _ _ _ _; rw [hx]; exact (PBx.on (heap_alloc_new w (.cells #[.int .i64 p.kind, .int .i64 p.target, .slice a1 p.bands.length c1, .int .i64 p.kp, .int .i64 p.ki, .int .i64 p.kd, .int .i64 p.period, .slice a2 p.slots.length c2] 25)) (bel1 (Below.refl _ _) _))
  have HS : Hid (StAt x (w.heap.size + 1) s e h) := by show StAt _ _ _ _ _; rw [hx]; exact al2 _ _ _
  have H1 := Lib.hid (h1.on hB)
  have H2 := Lib.hid (h2.on hB)
  have HB := Lib.hid hB
  have HX := Lib.hid hx
  clear hB hx h1 h2
  unfold plV stV
  go_enter Try.func5, Try.ntmps5
  go_wp2_with fail
  rw [← HX.out]
  refine (phead_any _).mono ?_
  rintro r w1 ⟨rfl, b⟩
  clear HX
  have HP := Lib.hid (HP.out.on b)
  have HS := Lib.hid (HS.out.on b)
  have H1 := Lib.hid (H1.out.on b)
  have H2 := Lib.hid (H2.out.on b)
  have HB := Lib.hid (bel2 HB.out b)
  clear b
  go_wp2_with (first
    | (refine wpList_load_rowP (by first | rfl | kernel_rfl | (simp [Region.wanted, yielded])) 25 (.tmp 5) (by rfl) w.heap.size (by rfl) 25 _ (0, 0) _ HP.out Try.underlying25 (by rfl) (by kernel_rfl) ?_)
    | fail)
  refine (pright_any H1.out H2.out).mono ?_
  rintro r w2 ⟨rfl, b⟩
  have HP := Lib.hid (HP.out.on b)
  have HS := Lib.hid (HS.out.on b)
  have H1 := Lib.hid (H1.out.on b)
  have H2 := Lib.hid (H2.out.on b)
  have HB := Lib.hid (bel2 HB.out b)
  clear b
  cases hr : okP p
  · clear hr
    go_wp2
    go_ret
    exact ⟨rfl, HB.out⟩
  have HO := Lib.hid hr
  clear hr
  obtain ⟨zs, ze, zh, zq⟩ : ∃ s1 e1 h1, carry p (s, e, h) u = (s1, e1, h1) := ⟨_, _, _, rfl⟩
  obtain ⟨zn, zm⟩ : ∃ n, many p (s, e, h) C u t = n := ⟨_, rfl⟩
  have zq := Lib.hid zq
  have zm := Lib.hid zm
  obtain ⟨cs0, cs1, cs2, _⟩ := StAt.c HS.out (Below.refl _ _)
  go_wp2_with (first
    | (refine wpList_load_rowP (by first | rfl | kernel_rfl | (simp [Region.wanted, yielded])) 25 (.tmp 5) (by rfl) w.heap.size (by rfl) 25 _ (0, 0) _ HP.out Try.underlying25 (by rfl) (by kernel_rfl) ?_)
    | fail)
  refine (pnext_l p HO.out H1.out H2.out s e h (C) (u) (t) zs ze zh zn zq.out zm.out).mono ?_
  rintro r v9 ⟨rfl, b⟩
  clear cs0 cs1 cs2
  have HP := Lib.hid (HP.out.on b)
  have HS := Lib.hid (HS.out.on b)
  have H1 := Lib.hid (H1.out.on b)
  have H2 := Lib.hid (H2.out.on b)
  have HB := Lib.hid (bel2 HB.out b)
  clear b
  go_upto_region 6 with fail
  have b := bel1 (Below.refl v9.heap.size v9) (.cells #[.int .i64 zs, .int .i64 ze, .bool zh] 27)
  have V1 : Hid (StAt (v9.alloc (.cells #[.int .i64 zs, .int .i64 ze, .bool zh] 27)) v9.heap.size zs ze zh) := heap_alloc_new _ _
  obtain ⟨V1g, hg9⟩ : ∃ g, g = v9.heap.size := ⟨_, rfl⟩
  rw [← hg9] at V1 ⊢
  have HP := Lib.hid (HP.out.on b)
  have HS := Lib.hid (HS.out.on b)
  have H1 := Lib.hid (H1.out.on b)
  have H2 := Lib.hid (H2.out.on b)
  have HB := Lib.hid (bel2 HB.out b)
  clear b
  generalize v9.alloc (.cells #[.int .i64 zs, .int .i64 ze, .bool zh] 27) = w9 at *
  clear hg9
  clear hw1 hC hwC
  have hk0 : w9.cell? ⟨w.heap.size, 0, none⟩ = some (.int .i64 p.kind) := (cell_of_row _ _ 0 _ _ _ HP.out).trans rfl
  have zm3 := zm.out
  cases okP_ HO.out with
  | track hk => 
    have HK := Lib.hid hk
    rw [many_track HK.out, HR.out] at zm3
    have hle := Tk.wt_le p.target C u
    rw [rep_id hle.1 hle.2] at zm3
    clear hle
    rw [hk] at hk0
    clear hk
    have hc1 := (cell_of_row _ _ 1 _ _ _ HP.out).trans rfl
    go_wp2_with fail
    refine (tkrwant_any p.target C u _).mono ?_
    rintro r w10 ⟨rfl, h9⟩
    obtain rfl := h9.symm
    rw [zm3]
    clear zm3
    go_wp2
    go_ret
    exact ⟨rfl, HB.out⟩
  | step hk hu hd hl => 
    have HK := Lib.hid hk
    rw [many_step HK.out, HR.out] at zm3
    have hle := Stp.wnt_le p.bands C u
    rw [rep_id hle.1 hle.2] at zm3
    clear hle
    rw [hk] at hk0
    clear hk
    have hc2 := (cell_of_row _ _ 2 _ _ _ HP.out).trans rfl
    go_wp2_with fail
    refine (strwant_any H1.out hd C u).mono ?_
    rintro r w10 ⟨rfl, h9⟩
    obtain rfl := h9.symm
    rw [zm3]
    clear zm3
    go_wp2
    go_ret
    exact ⟨rfl, HB.out⟩
  | slots hk ho => 
    have HK := Lib.hid hk
    rw [many_slots HK.out] at zm3
    have hle := ho.many t
    rw [rep_id hle.1 hle.2] at zm3
    clear hle
    rw [hk] at hk0
    clear hk
    have hc6 := (cell_of_row _ _ 6 _ _ _ HP.out).trans rfl
    have hc7 := (cell_of_row _ _ 7 _ _ _ HP.out).trans rfl
    go_wp2_with fail
    refine (sdrwant_any H2.out ho.p1 ho.p2 t).mono ?_
    rintro r w10 ⟨rfl, h9⟩
    obtain rfl := h9.symm
    rw [zm3]
    clear zm3
    go_wp2
    go_ret
    exact ⟨rfl, HB.out⟩
  | none hk => 
    have HK := Lib.hid hk
    rw [many_zero HK.out, HR.out] at zm3
    have hq := zq.out
    rw [carry_else (by rw [HK.out]; decide)] at hq
    simp only [Prod.mk.injEq] at hq
    obtain ⟨rfl, rfl, rfl⟩ := hq
    subst zm3
    rw [hk] at hk0
    clear hk
    obtain ⟨ca0, ca1, ca2, _⟩ := StAt.c V1.out (Below.refl _ _)
    obtain ⟨cb0, cb1, cb2, _⟩ := StAt.c HS.out (Below.refl _ _)
    go_wp2
    go_ret
    exact ⟨rfl, HB.out⟩
  | pid hk => 
    have HK := Lib.hid hk
    rw [many_pid HK.out, HR.out] at zm3
    have hq := zq.out
    rw [carry_pid HK.out] at hq
    simp only [Prod.mk.injEq] at hq zm3
    have hW := Pd.wnt_le p.kp p.ki p.kd (pdE p u) (pdS p (s, e, h) u) (Pd.chg h (pdE p u) e)
    have hN := Lib.hid (rnext_any (.int .i64 p.kind) (.slice a1 p.bands.length c1) (.int .i64 p.period) (.slice a2 p.slots.length c2) p.target p.kp p.ki p.kd s e h u w9)
    have hP : pdE p u = Fx.sub u p.target ∧ pdS p (s, e, h) u = Fx.add s (Fx.sub u p.target) := ⟨rfl, rfl⟩
    rw [← hP.2, ← hP.1] at hN
    clear hP
    generalize Pd.wnt p.kp p.ki p.kd (pdE p u) (pdS p (s, e, h) u) (Pd.chg h (pdE p u) e) = N at *
    obtain ⟨q1, q2, q3⟩ := hq
    rw [q1, q2] at hN
    clear q1 q2
    subst q3
    obtain ⟨k1, k2⟩ := HC.out
    have e9 : min (max (C + N) 0) 1000 = zn := by rw [← zm3]; unfold rep; omega
    have hw9 : IntKind.i64.wrap (C + N) = C + N := by rw [IntKind.wrap_i64]; omega
    clear zm3 hW k1 k2
    have hwz : IntKind.i64.wrap zn = zn := by rw [← e9, IntKind.wrap_i64]; omega
    rw [hk] at hk0
    clear hk
    have ZM := zm
    clear zm zq
    obtain ⟨cs0, cs1, cs2, _⟩ := StAt.c HS.out (Below.refl _ _)
    go_wp2_with (first
      | (refine wpList_load_rowP (by first | rfl | kernel_rfl | (simp [Region.wanted, yielded])) 25 (.tmp 5) (by rfl) w.heap.size (by rfl) 25 _ (0, 0) _ HP.out Try.underlying25 (by rfl) (by kernel_rfl) ?_)
      | fail)
    refine hN.out.mono ?_
    rintro r v9 ⟨rfl, b⟩
    unfold stV
    clear cs0 cs1 cs2 hk0 hN
    have HS := Lib.hid (HS.out.on b)
    have V1 := Lib.hid (V1.out.on b)
    have HB := Lib.hid (bel2 HB.out b)
    clear b
    go_upto_region 15 with fail
    have b := bel1 (Below.refl v9.heap.size v9) (.cells #[.int .i64 zs, .int .i64 ze, .bool true] 27)
    have V2 : Hid (StAt (v9.alloc (.cells #[.int .i64 zs, .int .i64 ze, .bool true] 27)) v9.heap.size zs ze true) := heap_alloc_new _ _
    have V1 := Lib.hid (V1.out.on b)
    have HB := Lib.hid (bel2 HB.out b)
    clear b
    generalize v9.alloc (.cells #[.int .i64 zs, .int .i64 ze, .bool true] 27) = w10 at *
    obtain ⟨ca0, ca1, ca2, _⟩ := StAt.c V1.out (Below.refl _ _)
    obtain ⟨cb0, cb1, cb2, _⟩ := StAt.c V2.out (Below.refl _ _)
    go_wp2
    go_ret
    exact ⟨rfl, HB.out⟩
end Go.Proofs.Ytpgjjdpblilljaa
