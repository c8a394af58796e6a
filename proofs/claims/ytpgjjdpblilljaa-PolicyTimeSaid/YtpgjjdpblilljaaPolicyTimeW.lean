/- PolicyTime: the walk. -/
import Derived.Test.YtpgjjdpblilljaaPoG
namespace Go.Proofs.Ytpgjjdpblilljaa
set_option linter.unusedSimpArgs false
set_option linter.unusedVariables false
open Go.RowKit
open Evn Plc
attribute [local go_sem] Oper.semAt_some

theorem pnext_l {w : World} (p : Pl) {a1 a2 : Option Addr} {c1 c2 : Nat} (hok : okP p = true) (h1 : PRow w a1 p.bands.length c1 p.bands) (h2 : PRow w a2 p.slots.length c2 p.slots) (s e : Int) (h : Bool) (c u t : Int) (zs ze : Int) (zh : Bool) (n : Int)
    (hz : carry p (s, e, h) u = (zs, ze, zh)) (hn : many p (s, e, h) c u t = n) :
    Calls Try.prog 11 #[plV p a1 a2 c1 c2, .agg #[.int .i64 s, .int .i64 e, .bool h], .int .i64 c, .int .i64 u, .int .i64 t] w fun r w' =>
      r = .returned (.tuple #[.agg #[.int .i64 zs, .int .i64 ze, .bool zh], .int .i64 n]) ∧ Below w.heap.size w w' := by
  have := pnext_any hok h1 h2 s e h c u t
  rw [hz, hn] at this
  exact this
set_option maxRecDepth 100000 in
set_option maxHeartbeats 3200000 in
theorem policyTime_walk {w : World} {p : Pl} {a1 a2 : Option Addr} {c1 c2 : Nat} (h1 : PRow w a1 p.bands.length c1 p.bands) (h2 : PRow w a2 p.slots.length c2 p.slots) (s e : Int) (h : Bool) (c u t : Int) (o : Int)  :
    Calls Try.prog 6 #[plV p a1 a2 c1 c2, stV s e h, .int .i64 c, .int .i64 u, .int .i64 t, .int .i64 o] w fun r w' => r = .returned (.bool true) ∧ Below w.heap.size w w' := by
  obtain ⟨x, hx⟩ : ∃ x, x = (w.alloc (.cells #[.int .i64 p.kind, .int .i64 p.target, .slice a1 p.bands.length c1, .int .i64 p.kp, .int .i64 p.ki, .int .i64 p.kd, .int .i64 p.period, .slice a2 p.slots.length c2] 25)).alloc (.cells #[.int .i64 s, .int .i64 e, .bool h] 27) := ⟨_, rfl⟩
  have hB : Below w.heap.size w x := by rw [hx]; exact bel1 (bel1 (Below.refl _ _) _) _
  have HP : Hid (PBx x w.heap.size p a1 a2 c1 c2) := by show PBx _ _ _ _ _ _ _; rw [hx]; exact (PBx.on (heap_alloc_new w (.cells #[.int .i64 p.kind, .int .i64 p.target, .slice a1 p.bands.length c1, .int .i64 p.kp, .int .i64 p.ki, .int .i64 p.kd, .int .i64 p.period, .slice a2 p.slots.length c2] 25)) (bel1 (Below.refl _ _) _))
  have HS : Hid (StAt x (w.heap.size + 1) s e h) := by show StAt _ _ _ _ _; rw [hx]; exact al2 _ _ _
  have H1 := Lib.hid (h1.on hB)
  have H2 := Lib.hid (h2.on hB)
  have HB := Lib.hid hB
  have HX := Lib.hid hx
  clear hB hx h1 h2
  unfold plV stV
  go_enter Try.func6, Try.ntmps6
  go_wp2_with fail
  rw [← HX.out]
  refine (phead_any _).mono ?_
  rintro r w1 ⟨rfl, b⟩
  clear HX
  have HP := Lib.hid (HP.out.on b)
  have HS := Lib.hid (HS.out.on b)
  have H1 := Lib.hid (H1.out.on b)
  have H2 := Lib.hid (H2.out.on b)
  have HB := Lib.hid (bel2 HB.out b)
  clear b
  go_wp2_with (first
    | (refine wpList_load_rowP (by first | rfl | kernel_rfl | (simp [Region.wanted, yielded])) 25 (.tmp 6) (by rfl) w.heap.size (by rfl) 25 _ (0, 0) _ HP.out Try.underlying25 (by rfl) (by kernel_rfl) ?_)
    | fail)
  refine (pright_any H1.out H2.out).mono ?_
  rintro r w2 ⟨rfl, b⟩
  have HP := Lib.hid (HP.out.on b)
  have HS := Lib.hid (HS.out.on b)
  have H1 := Lib.hid (H1.out.on b)
  have H2 := Lib.hid (H2.out.on b)
  have HB := Lib.hid (bel2 HB.out b)
  clear b
  cases hr : okP p
  · clear hr
    go_wp2
    go_ret
    exact ⟨rfl, HB.out⟩
  have HO := Lib.hid hr
  clear hr
  obtain ⟨zs, ze, zh, zq⟩ : ∃ s1 e1 h1, carry p (s, e, h) u = (s1, e1, h1) := ⟨_, _, _, rfl⟩
  obtain ⟨zn, zm⟩ : ∃ n, many p (s, e, h) c u t = n := ⟨_, rfl⟩
  have zq := Lib.hid zq
  have zm := Lib.hid zm
  obtain ⟨cs0, cs1, cs2, _⟩ := StAt.c HS.out (Below.refl _ _)
  go_wp2_with (first
    | (refine wpList_load_rowP (by first | rfl | kernel_rfl | (simp [Region.wanted, yielded])) 25 (.tmp 6) (by rfl) w.heap.size (by rfl) 25 _ (0, 0) _ HP.out Try.underlying25 (by rfl) (by kernel_rfl) ?_)
    | fail)
  refine (pnext_l p HO.out H1.out H2.out s e h (c) (u) (t) zs ze zh zn zq.out zm.out).mono ?_
  rintro r v9 ⟨rfl, b⟩
  clear cs0 cs1 cs2
  have HP := Lib.hid (HP.out.on b)
  have HS := Lib.hid (HS.out.on b)
  have H1 := Lib.hid (H1.out.on b)
  have H2 := Lib.hid (H2.out.on b)
  have HB := Lib.hid (bel2 HB.out b)
  clear b
  go_upto_region 5 with fail
  have b := bel1 (Below.refl v9.heap.size v9) (.cells #[.int .i64 zs, .int .i64 ze, .bool zh] 27)
  have V1 : Hid (StAt (v9.alloc (.cells #[.int .i64 zs, .int .i64 ze, .bool zh] 27)) v9.heap.size zs ze zh) := heap_alloc_new _ _
  obtain ⟨V1g, hg9⟩ : ∃ g, g = v9.heap.size := ⟨_, rfl⟩
  rw [← hg9] at V1 ⊢
  have HP := Lib.hid (HP.out.on b)
  have HS := Lib.hid (HS.out.on b)
  have H1 := Lib.hid (H1.out.on b)
  have H2 := Lib.hid (H2.out.on b)
  have HB := Lib.hid (bel2 HB.out b)
  clear b
  generalize v9.alloc (.cells #[.int .i64 zs, .int .i64 ze, .bool zh] 27) = w9 at *
  clear hg9
  have hk0 : w9.cell? ⟨w.heap.size, 0, none⟩ = some (.int .i64 p.kind) := (cell_of_row _ _ 0 _ _ _ HP.out).trans rfl
  by_cases hk : p.kind = 4
  · have HK := Lib.hid hk
    have hkb : (p.kind == 4) = true := by simpa using hk
    clear hk
    obtain ⟨T, hT⟩ : ∃ T, o.tmod 1000 = T := ⟨_, rfl⟩
    have hwT : IntKind.i64.wrap T = T := by rw [← hT, IntKind.wrap_i64]; have := Int.tmod_lt_of_pos o (show (0 : Int) < 1000 by decide); have := Int.lt_tmod_of_pos o (show (0 : Int) < 1000 by decide); omega
    have zq2 : Hid (carry p (s, e, h) o = (zs, ze, zh)) := by show _ = _; rw [← zq.out, carry_else (by rw [HK.out]; decide), carry_else (by rw [HK.out]; decide)]
    have zm2 : Hid (many p (s, e, h) T o t = zn) := by show _ = _; rw [← zm.out]; exact many_sched HK.out _ _ _ _ _ _ _
    obtain ⟨cs0, cs1, cs2, _⟩ := StAt.c HS.out (Below.refl _ _)
    go_wp2_with (first
      | (refine wpList_load_rowP (by first | rfl | kernel_rfl | (simp [Region.wanted, yielded])) 25 (.tmp 6) (by rfl) w.heap.size (by rfl) 25 _ (0, 0) _ HP.out Try.underlying25 (by rfl) (by kernel_rfl) ?_)
      | fail)
    refine (pnext_l p HO.out H1.out H2.out s e h (T) (o) (t) zs ze zh zn zq2.out zm2.out).mono ?_
    rintro r v9 ⟨rfl, b⟩
    clear cs0 cs1 cs2
    have HP := Lib.hid (HP.out.on b)
    have HS := Lib.hid (HS.out.on b)
    have H1 := Lib.hid (H1.out.on b)
    have H2 := Lib.hid (H2.out.on b)
    have V1 := Lib.hid (V1.out.on b)
    have HB := Lib.hid (bel2 HB.out b)
    clear b
    go_upto_region 7 with fail
    have b := bel1 (Below.refl v9.heap.size v9) (.cells #[.int .i64 zs, .int .i64 ze, .bool zh] 27)
    have V2 : Hid (StAt (v9.alloc (.cells #[.int .i64 zs, .int .i64 ze, .bool zh] 27)) v9.heap.size zs ze zh) := heap_alloc_new _ _
    obtain ⟨V2g, hg9⟩ : ∃ g, g = v9.heap.size := ⟨_, rfl⟩
    rw [← hg9] at V2 ⊢
    have HP := Lib.hid (HP.out.on b)
    have HS := Lib.hid (HS.out.on b)
    have H1 := Lib.hid (H1.out.on b)
    have H2 := Lib.hid (H2.out.on b)
    have V1 := Lib.hid (V1.out.on b)
    have HB := Lib.hid (bel2 HB.out b)
    clear b
    generalize v9.alloc (.cells #[.int .i64 zs, .int .i64 ze, .bool zh] 27) = w9 at *
    clear hg9
    obtain ⟨ca0, ca1, ca2, _⟩ := StAt.c V1.out (Below.refl _ _)
    obtain ⟨cb0, cb1, cb2, _⟩ := StAt.c V2.out (Below.refl _ _)
    clear hkb hk0 hwT hT
    go_wp2
    go_ret
    exact ⟨rfl, HB.out⟩
  · have HK := Lib.hid hk
    have hkb : (p.kind == 4) = false := by simpa using hk
    clear hk
    have zm2 : Hid (many p (s, e, h) c u o = zn) := by show _ = _; rw [← zm.out]; exact many_time HK.out _ _ _ _ _
    obtain ⟨cs0, cs1, cs2, _⟩ := StAt.c HS.out (Below.refl _ _)
    go_wp2_with (first
      | (refine wpList_load_rowP (by first | rfl | kernel_rfl | (simp [Region.wanted, yielded])) 25 (.tmp 6) (by rfl) w.heap.size (by rfl) 25 _ (0, 0) _ HP.out Try.underlying25 (by rfl) (by kernel_rfl) ?_)
      | fail)
    refine (pnext_l p HO.out H1.out H2.out s e h (c) (u) (o) zs ze zh zn zq.out zm2.out).mono ?_
    rintro r v9 ⟨rfl, b⟩
    clear cs0 cs1 cs2
    have HP := Lib.hid (HP.out.on b)
    have HS := Lib.hid (HS.out.on b)
    have H1 := Lib.hid (H1.out.on b)
    have H2 := Lib.hid (H2.out.on b)
    have V1 := Lib.hid (V1.out.on b)
    have HB := Lib.hid (bel2 HB.out b)
    clear b
    go_upto_region 9 with fail
    have b := bel1 (Below.refl v9.heap.size v9) (.cells #[.int .i64 zs, .int .i64 ze, .bool zh] 27)
    have V2 : Hid (StAt (v9.alloc (.cells #[.int .i64 zs, .int .i64 ze, .bool zh] 27)) v9.heap.size zs ze zh) := heap_alloc_new _ _
    obtain ⟨V2g, hg9⟩ : ∃ g, g = v9.heap.size := ⟨_, rfl⟩
    rw [← hg9] at V2 ⊢
    have HP := Lib.hid (HP.out.on b)
    have HS := Lib.hid (HS.out.on b)
    have H1 := Lib.hid (H1.out.on b)
    have H2 := Lib.hid (H2.out.on b)
    have V1 := Lib.hid (V1.out.on b)
    have HB := Lib.hid (bel2 HB.out b)
    clear b
    generalize v9.alloc (.cells #[.int .i64 zs, .int .i64 ze, .bool zh] 27) = w9 at *
    clear hg9
    obtain ⟨ca0, ca1, ca2, _⟩ := StAt.c V1.out (Below.refl _ _)
    obtain ⟨cb0, cb1, cb2, _⟩ := StAt.c V2.out (Below.refl _ _)
    clear hkb hk0
    go_wp2
    go_ret
    exact ⟨rfl, HB.out⟩
end Go.Proofs.Ytpgjjdpblilljaa
