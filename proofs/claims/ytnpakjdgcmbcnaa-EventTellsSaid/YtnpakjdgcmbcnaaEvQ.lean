/- The reference's Same of events. -/
import Derived.Test.YtnpakjdgcmbcnaaEvP
import Derived.Test.YtnpakjdgcmbcnaaEvJ
namespace Go.Proofs.Ytnpakjdgcmbcnaa
open Go.RowKit
open Wir Evn
attribute [local go_sem] Oper.semAt_some

theorem ne_toList {a b : ByteArray} (h : a ≠ b) : (a.toList == b.toList) = false := by
  rw [beq_eq_false_iff_ne]
  intro e
  rw [ByteArray.toList_eq, ByteArray.toList_eq] at e
  exact h (ByteArray.ext (Array.toList_inj.1 e))
theorem run_strv {w : World} {B : Nat} {a : Option Addr} {len cap : Nat} {bs : List Nat} (h : Sl w B a len cap bs) : (convert 28 9 (.slice a len cap)).run Try.prog w = .ok (.string (strOf bs)) w :=
  run_str h 28 5 9 Try.underlying28 Try.underlying5 Try.underlying9
set_option linter.unusedSimpArgs false in
set_option maxRecDepth 100000 in
set_option maxHeartbeats 6400000 in
theorem same_any {w : World} {a1 a2 a3 b1 b2 b3 : Option Addr} {c1 c2 c3 d1 d2 d3 : Nat} (e f : Ev) (P1 : PRow w a1 e.pol.bands.length c1 e.pol.bands) (P2 : PRow w a2 e.pol.slots.length c2 e.pol.slots) (P3 : Sl w w.heap.size a3 e.body.length c3 e.body)
    (Q1 : PRow w b1 f.pol.bands.length d1 f.pol.bands) (Q2 : PRow w b2 f.pol.slots.length d2 f.pol.slots) (Q3 : Sl w w.heap.size b3 f.body.length d3 f.body) :
    Calls Try.prog 17 #[evV e a1 a2 a3 c1 c2 c3, evV f b1 b2 b3 d1 d2 d3] w fun r w' => r = .returned (.bool (evSame e f)) ∧ Below w.heap.size w w' := by
  obtain ⟨xkind, xutil, xdemand, xt, xid, xn, xpol, xconf, xbody⟩ := e
  obtain ⟨ykind, yutil, ydemand, yt, yid, yn, ypol, yconf, ybody⟩ := f
  have HZ : Hid (¬ (⟨xkind, xutil, xdemand, xt, xid, xn, xpol, xconf, xbody⟩ : Ev) = ⟨ykind, yutil, ydemand, yt, yid, yn, ypol, yconf, ybody⟩ → evSame ⟨xkind, xutil, xdemand, xt, xid, xn, xpol, xconf, xbody⟩ ⟨ykind, yutil, ydemand, yt, yid, yn, ypol, yconf, ybody⟩ = false) := fun h => by
    apply Bool.eq_false_iff.2
    intro h2
    exact h (evSame_iff.1 h2)
  have HY : Hid (∀ e : Ev, evSame e e = true) := fun p => evSame_iff.2 rfl
  have HM := Lib.hid (And.intro P1 (And.intro P2 (And.intro P3 (And.intro Q1 (And.intro Q2 Q3)))))
  clear P1 P2 P3 Q1 Q2 Q3
  have hBA := Lib.hid (fun (A B : Obj) => bel1 (bel1 (Below.refl w.heap.size w) A) B)
  obtain ⟨xpk, xpt, xbands, xkp, xki, xkd, xpp, xslots⟩ := xpol
  obtain ⟨ypk, ypt, ybands, ykp, yki, ykd, ypp, yslots⟩ := ypol
  obtain ⟨xc1_, xc2_, xc3_, xc4_, xc5_, xc6_, xc7_, xc8_, xc9_, xca_, xcb_, xcc_⟩ := xconf
  obtain ⟨yc1_, yc2_, yc3_, yc4_, yc5_, yc6_, yc7_, yc8_, yc9_, yca_, ycb_, ycc_⟩ := yconf
  unfold evV evC
  simp only
  by_cases hh : xkind = ykind
  rotate_left
  · have ne : (xkind == ykind) = false := by simpa using hh
    have HH := Lib.hid hh
    clear hh
    go_enter Try.func17, Try.ntmps17
    go_wp2
    go_ret
    exact ⟨ret_bool (HZ.out (fun h => by injection h with h1 h2 h3 h4 h5 h6 h7 h8 h9; exact HH.out h1)).symm, hBA.out _ _⟩
  subst hh
  by_cases hh : xutil = yutil
  rotate_left
  · have ne : (xutil == yutil) = false := by simpa using hh
    have HH := Lib.hid hh
    clear hh
    go_enter Try.func17, Try.ntmps17
    go_wp2
    go_ret
    exact ⟨ret_bool (HZ.out (fun h => by injection h with h1 h2 h3 h4 h5 h6 h7 h8 h9; exact HH.out h2)).symm, hBA.out _ _⟩
  subst hh
  by_cases hh : xdemand = ydemand
  rotate_left
  · have ne : (xdemand == ydemand) = false := by simpa using hh
    have HH := Lib.hid hh
    clear hh
    go_enter Try.func17, Try.ntmps17
    go_wp2
    go_ret
    exact ⟨ret_bool (HZ.out (fun h => by injection h with h1 h2 h3 h4 h5 h6 h7 h8 h9; exact HH.out h3)).symm, hBA.out _ _⟩
  subst hh
  by_cases hh : xt = yt
  rotate_left
  · have ne : (xt == yt) = false := by simpa using hh
    have HH := Lib.hid hh
    clear hh
    go_enter Try.func17, Try.ntmps17
    go_wp2
    go_ret
    exact ⟨ret_bool (HZ.out (fun h => by injection h with h1 h2 h3 h4 h5 h6 h7 h8 h9; exact HH.out h4)).symm, hBA.out _ _⟩
  subst hh
  by_cases hh : xid = yid
  rotate_left
  · have ne : (xid == yid) = false := by simpa using hh
    have HH := Lib.hid hh
    clear hh
    go_enter Try.func17, Try.ntmps17
    go_wp2
    go_ret
    exact ⟨ret_bool (HZ.out (fun h => by injection h with h1 h2 h3 h4 h5 h6 h7 h8 h9; exact HH.out h5)).symm, hBA.out _ _⟩
  subst hh
  by_cases hh : xn = yn
  rotate_left
  · have ne : (xn == yn) = false := by simpa using hh
    have HH := Lib.hid hh
    clear hh
    go_enter Try.func17, Try.ntmps17
    go_wp2
    go_ret
    exact ⟨ret_bool (HZ.out (fun h => by injection h with h1 h2 h3 h4 h5 h6 h7 h8 h9; exact HH.out h6)).symm, hBA.out _ _⟩
  subst hh
  obtain ⟨wB, hwB⟩ : ∃ wB, wB = (w.alloc (.cells #[.int .i64 xkind, .int .i64 xutil, .int .i64 xdemand, .int .i64 xt, .int .i64 xid, .int .i64 xn, .int .i64 xpk, .int .i64 xpt, .slice a1 xbands.length c1, .int .i64 xkp, .int .i64 xki, .int .i64 xkd, .int .i64 xpp, .slice a2 xslots.length c2, .int .i64 xc1_, .int .i64 xc2_, .int .i64 xc3_, .int .i64 xc4_, .int .i64 xc5_, .int .i64 xc6_, .int .i64 xc7_, .int .i64 xc8_, .int .i64 xc9_, .int .i64 xca_, .int .i64 xcb_, .int .i64 xcc_, .slice a3 xbody.length c3] 30)).alloc (.cells #[.int .i64 xkind, .int .i64 xutil, .int .i64 xdemand, .int .i64 xt, .int .i64 xid, .int .i64 xn, .int .i64 ypk, .int .i64 ypt, .slice b1 ybands.length d1, .int .i64 ykp, .int .i64 yki, .int .i64 ykd, .int .i64 ypp, .slice b2 yslots.length d2, .int .i64 yc1_, .int .i64 yc2_, .int .i64 yc3_, .int .i64 yc4_, .int .i64 yc5_, .int .i64 yc6_, .int .i64 yc7_, .int .i64 yc8_, .int .i64 yc9_, .int .i64 yca_, .int .i64 ycb_, .int .i64 ycc_, .slice b3 ybody.length d3] 30) := ⟨_, rfl⟩
  have hx : wB.heap[w.heap.size]? = some (.cells #[.int .i64 xkind, .int .i64 xutil, .int .i64 xdemand, .int .i64 xt, .int .i64 xid, .int .i64 xn, .int .i64 xpk, .int .i64 xpt, .slice a1 xbands.length c1, .int .i64 xkp, .int .i64 xki, .int .i64 xkd, .int .i64 xpp, .slice a2 xslots.length c2, .int .i64 xc1_, .int .i64 xc2_, .int .i64 xc3_, .int .i64 xc4_, .int .i64 xc5_, .int .i64 xc6_, .int .i64 xc7_, .int .i64 xc8_, .int .i64 xc9_, .int .i64 xca_, .int .i64 xcb_, .int .i64 xcc_, .slice a3 xbody.length c3] 30 (0, 0)) := by rw [hwB]; exact (Below.heap_alloc _ _ _ (by simp)).trans (heap_alloc_new _ _)
  have hy : wB.heap[w.heap.size + 1]? = some (.cells #[.int .i64 xkind, .int .i64 xutil, .int .i64 xdemand, .int .i64 xt, .int .i64 xid, .int .i64 xn, .int .i64 ypk, .int .i64 ypt, .slice b1 ybands.length d1, .int .i64 ykp, .int .i64 yki, .int .i64 ykd, .int .i64 ypp, .slice b2 yslots.length d2, .int .i64 yc1_, .int .i64 yc2_, .int .i64 yc3_, .int .i64 yc4_, .int .i64 yc5_, .int .i64 yc6_, .int .i64 yc7_, .int .i64 yc8_, .int .i64 yc9_, .int .i64 yca_, .int .i64 ycb_, .int .i64 ycc_, .slice b3 ybody.length d3] 30 (0, 0)) := by rw [hwB, show w.heap.size + 1 = (w.alloc (.cells #[.int .i64 xkind, .int .i64 xutil, .int .i64 xdemand, .int .i64 xt, .int .i64 xid, .int .i64 xn, .int .i64 xpk, .int .i64 xpt, .slice a1 xbands.length c1, .int .i64 xkp, .int .i64 xki, .int .i64 xkd, .int .i64 xpp, .slice a2 xslots.length c2, .int .i64 xc1_, .int .i64 xc2_, .int .i64 xc3_, .int .i64 xc4_, .int .i64 xc5_, .int .i64 xc6_, .int .i64 xc7_, .int .i64 xc8_, .int .i64 xc9_, .int .i64 xca_, .int .i64 xcb_, .int .i64 xcc_, .slice a3 xbody.length c3] 30)).heap.size from by simp]; exact heap_alloc_new _ _
  have hb0 : Below w.heap.size w wB := by rw [hwB]; exact hBA.out _ _
  have HS := Lib.hid (samePol_any (w := wB) (a1 := a1) (a2 := a2) (b1 := b1) (b2 := b2) (c1 := c1) (c2 := c2) (d1 := d1) (d2 := d2) ⟨xpk, xpt, xbands, xkp, xki, xkd, xpp, xslots⟩ ⟨ypk, ypt, ybands, ykp, yki, ykd, ypp, yslots⟩ (HM.out.1.on hb0) (HM.out.2.1.on hb0) (HM.out.2.2.2.1.on hb0) (HM.out.2.2.2.2.1.on hb0))
  have HW : Hid ((w.alloc (.cells #[.int .i64 xkind, .int .i64 xutil, .int .i64 xdemand, .int .i64 xt, .int .i64 xid, .int .i64 xn, .int .i64 xpk, .int .i64 xpt, .slice a1 xbands.length c1, .int .i64 xkp, .int .i64 xki, .int .i64 xkd, .int .i64 xpp, .slice a2 xslots.length c2, .int .i64 xc1_, .int .i64 xc2_, .int .i64 xc3_, .int .i64 xc4_, .int .i64 xc5_, .int .i64 xc6_, .int .i64 xc7_, .int .i64 xc8_, .int .i64 xc9_, .int .i64 xca_, .int .i64 xcb_, .int .i64 xcc_, .slice a3 xbody.length c3] 30)).alloc (.cells #[.int .i64 xkind, .int .i64 xutil, .int .i64 xdemand, .int .i64 xt, .int .i64 xid, .int .i64 xn, .int .i64 ypk, .int .i64 ypt, .slice b1 ybands.length d1, .int .i64 ykp, .int .i64 yki, .int .i64 ykd, .int .i64 ypp, .slice b2 yslots.length d2, .int .i64 yc1_, .int .i64 yc2_, .int .i64 yc3_, .int .i64 yc4_, .int .i64 yc5_, .int .i64 yc6_, .int .i64 yc7_, .int .i64 yc8_, .int .i64 yc9_, .int .i64 yca_, .int .i64 ycb_, .int .i64 ycc_, .slice b3 ybody.length d3] 30) = wB) := hwB.symm
  have HB := Lib.hid (And.intro hx (And.intro hy hb0))
  clear hx hy hb0 hwB hBA
  go_enter Try.func17, Try.ntmps17
  go_wp2_with fail
  rw [HW.out]
  refine HS.out.mono ?_
  rintro r w1 ⟨rfl, h1⟩
  have Hkx := (h1.block _ (lt_of_heap HB.out.1)).trans HB.out.1
  have Hky := (h1.block _ (lt_of_heap HB.out.2.1)).trans HB.out.2.1
  have hb1 := bel2 HB.out.2.2 h1
  have kx14 := cell_of_row w1 w.heap.size 14 _ _ _ Hkx
  have kx15 := cell_of_row w1 w.heap.size 15 _ _ _ Hkx
  have kx16 := cell_of_row w1 w.heap.size 16 _ _ _ Hkx
  have kx17 := cell_of_row w1 w.heap.size 17 _ _ _ Hkx
  have kx18 := cell_of_row w1 w.heap.size 18 _ _ _ Hkx
  have kx19 := cell_of_row w1 w.heap.size 19 _ _ _ Hkx
  have kx20 := cell_of_row w1 w.heap.size 20 _ _ _ Hkx
  have kx21 := cell_of_row w1 w.heap.size 21 _ _ _ Hkx
  have kx22 := cell_of_row w1 w.heap.size 22 _ _ _ Hkx
  have kx23 := cell_of_row w1 w.heap.size 23 _ _ _ Hkx
  have kx24 := cell_of_row w1 w.heap.size 24 _ _ _ Hkx
  have kx25 := cell_of_row w1 w.heap.size 25 _ _ _ Hkx
  have kx26 := cell_of_row w1 w.heap.size 26 _ _ _ Hkx
  have ky14 := cell_of_row w1 (w.heap.size + 1) 14 _ _ _ Hky
  have ky15 := cell_of_row w1 (w.heap.size + 1) 15 _ _ _ Hky
  have ky16 := cell_of_row w1 (w.heap.size + 1) 16 _ _ _ Hky
  have ky17 := cell_of_row w1 (w.heap.size + 1) 17 _ _ _ Hky
  have ky18 := cell_of_row w1 (w.heap.size + 1) 18 _ _ _ Hky
  have ky19 := cell_of_row w1 (w.heap.size + 1) 19 _ _ _ Hky
  have ky20 := cell_of_row w1 (w.heap.size + 1) 20 _ _ _ Hky
  have ky21 := cell_of_row w1 (w.heap.size + 1) 21 _ _ _ Hky
  have ky22 := cell_of_row w1 (w.heap.size + 1) 22 _ _ _ Hky
  have ky23 := cell_of_row w1 (w.heap.size + 1) 23 _ _ _ Hky
  have ky24 := cell_of_row w1 (w.heap.size + 1) 24 _ _ _ Hky
  have ky25 := cell_of_row w1 (w.heap.size + 1) 25 _ _ _ Hky
  have ky26 := cell_of_row w1 (w.heap.size + 1) 26 _ _ _ Hky
  simp only [List.getElem?_toArray, List.getElem?_cons_zero, List.getElem?_cons_succ] at kx14 ky14 kx15 ky15 kx16 ky16 kx17 ky17 kx18 ky18 kx19 ky19 kx20 ky20 kx21 ky21 kx22 ky22 kx23 ky23 kx24 ky24 kx25 ky25 kx26 ky26
  have e1 := run_strv ((HM.out.2.2.1.below hb1 (Nat.le_refl _)).more hb1.size)
  have e2 := run_strv ((HM.out.2.2.2.2.2.below hb1 (Nat.le_refl _)).more hb1.size)
  have H1 := Lib.hid hb1
  clear Hkx Hky h1 hb1 HB HS HW
  cases hp : plSame ⟨xpk, xpt, xbands, xkp, xki, xkd, xpp, xslots⟩ ⟨ypk, ypt, ybands, ykp, yki, ykd, ypp, yslots⟩
  · have HP := Lib.hid hp
    clear hp
    go_wp2
    go_ret
    exact ⟨ret_bool (HZ.out (fun h => by injection h with h1 h2 h3 h4 h5 h6 h7 h8 h9; have := HP.out; rw [h7, plSame_iff.2 rfl] at this; cases this)).symm, H1.out⟩
  have hp2 := plSame_iff.1 hp
  have HP := Lib.hid hp2
  clear hp hp2
  by_cases hc : (⟨xc1_, xc2_, xc3_, xc4_, xc5_, xc6_, xc7_, xc8_, xc9_, xca_, xcb_, xcc_⟩ : Cf) = ⟨yc1_, yc2_, yc3_, yc4_, yc5_, yc6_, yc7_, yc8_, yc9_, yca_, ycb_, ycc_⟩
  · injection hc with q1 q2 q3 q4 q5 q6 q7 q8 q9 qa qb qc
    subst q1 q2 q3 q4 q5 q6 q7 q8 q9 qa qb qc
    have hstr := Lib.hid (strOf_eq HM.out.2.2.1.byte HM.out.2.2.2.2.2.byte)
    generalize hs1 : strOf xbody = s1 at e1 hstr
    generalize hs2 : strOf ybody = s2 at e2 hstr
    clear hs1 hs2
    by_cases hs : s1 = s2
    · subst hs
      go_wp2
      go_ret
      refine ⟨ret_bool ?_, H1.out⟩
      have e8 := hstr.out.1 trivial
      have e9 := HP.out
      injection e9 with p1 p2 p3 p4 p5 p6 p7 p8
      subst p1 p2 p3 p4 p5 p6 p7 p8 e8
      exact (HY.out _).symm
    · have ne := ne_toList hs
      have HS := Lib.hid hs
      clear hs
      go_wp2
      go_ret
      exact ⟨ret_bool (HZ.out (fun h => by injection h with h1 h2 h3 h4 h5 h6 h7 h8 h9; exact HS.out (hstr.out.2 h9))).symm, H1.out⟩
  · have HC := Lib.hid hc
    clear hc
    generalize strOf xbody = s1 at e1
    generalize strOf ybody = s2 at e2
    go_wp2
    all_goals first
      | (exfalso; apply HC.out; simp only [Cf.mk.injEq]; refine ⟨?_, ?_, ?_, ?_, ?_, ?_, ?_, ?_, ?_, ?_, ?_, ?_⟩ <;> assumption)
      | (go_ret; exact ⟨ret_bool (HZ.out (fun h => by injection h with h1 h2 h3 h4 h5 h6 h7 h8 h9; exact HC.out h8)).symm, H1.out⟩)
end Go.Proofs.Ytnpakjdgcmbcnaa
