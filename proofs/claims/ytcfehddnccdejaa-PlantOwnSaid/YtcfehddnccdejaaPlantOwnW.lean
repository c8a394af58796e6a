/- PlantOwn: the walk. -/
import Derived.Test.YtcfehddnccdejaaQlI
import Derived.Test.YtcfehddnccdejaaQlJ
import Derived.Deep.RegionHeld
import Derived.Deep.CutRange
import Derived.Lib.MinMax
namespace Go.Proofs.Ytcfehddnccdejaa
set_option linter.unusedSimpArgs false
set_option linter.unusedVariables false
open Go.RowKit
open Wir Evn Lim Plt
attribute [local go_sem] Oper.semAt_some

/-- What is owned: read, and its block. -/
theorem own_all {w : World} {base : Nat} {e : TypeId} {v : Value} {l : List Int} (h : OwnV w base e v (i64V l)) :
    ∃ a c, v = .slice a l.length c ∧ SRw w a c l ∧ (∀ k o, a = some ⟨k, o, none⟩ → base ≤ k) ∧ (0 < l.length → ∃ g cs, a = some ⟨g, 0, none⟩ ∧ base ≤ g ∧ w.heap[g]? = some (.cells cs e (0, 0)) ∧ l.length ≤ cs.size) := by
  obtain ⟨a, c, hv, hs, hb, _⟩ := own_srw h
  refine ⟨a, c, hv, hs, hb, fun hn => ?_⟩
  rcases h.2 with ⟨h1, h2⟩ | ⟨g, cap, cur, h1, h2, h3, h4, _, h6, _⟩
  · rw [List.length_map] at h2; omega
  · rw [hv] at h1
    injection h1 with e1 e2 e3
    exact ⟨g, cur, e1, h2, h3, by omega⟩
theorem SRw.far1A {w : World} {a : Option Addr} {k : Nat} {l : List Int} (h : SRw w a k l) {q : Nat} (hq : Apart a l q) (j : Nat) (v : Value) : SRw (w.setCell ⟨q, j, none⟩ v) a k l :=
  ⟨⟨h.row.le, h.row.max, fun hp => by
    obtain ⟨b, o, e, hlt, hc⟩ := h.row.at_ hp
    refine ⟨b, o, e, by simpa using hlt, fun i hi => ?_⟩
    exact (World.cell?_of_block (w := w) (a := ⟨b, o + i, none⟩) (heap_setCell_other w ⟨q, j, none⟩ b v (hq hp b o e))).trans (hc i hi)⟩, h.nil_⟩
theorem PvA.far1 {w : World} {g q : Nat} {p : Pt} {a : Option Addr} {k : Nat} (h : PvA w g p a k) (hg : g ≠ q) (hq : Apart a p.start q) (j : Nat) (v : Value) : PvA (w.setCell ⟨q, j, none⟩ v) g p a k :=
  ⟨(heap_setCell_other w ⟨q, j, none⟩ g v hg).trans h.at_, h.row.far1A hq j v⟩
theorem PtAt.far1 {w : World} {g q : Nat} {p : Pt} {a : Option Addr} {k : Nat} (h : PtAt w g p a k) (hg : g ≠ q) (j : Nat) (v : Value) : PtAt (w.setCell ⟨q, j, none⟩ v) g p a k := (heap_setCell_other w ⟨q, j, none⟩ g v hg).trans h
theorem PtAt.row1 {w : World} {g : Nat} {p : Pt} {a a2 : Option Addr} {k k2 : Nat} (h : PtAt w g p a k) : PtAt (w.setCell ⟨g, 1, none⟩ (.slice a2 p.start.length k2)) g p a2 k2 := heap_setCell_same _ _ 1 _ _ _ h
theorem CBx.far1 {w : World} {g q : Nat} {c : Cf} (h : CBx w g c) (hg : g ≠ q) (j : Nat) (v : Value) : CBx (w.setCell ⟨q, j, none⟩ v) g c := (heap_setCell_other w ⟨q, j, none⟩ g v hg).trans h
theorem one_box (v : World) (p : Pt) (a : Option Addr) (k : Nat) (n : Nat) (hl : p.start.length = n) :
    let x := v.alloc (.cells #[.int .i64 p.ready, .slice a n k, .int .i64 p.wait, .int .i64 p.util] 26)
    Below v.heap.size v x ∧ PtAt x v.heap.size p a k := by
  subst hl
  exact ⟨bel1 (Below.refl _ _) _, heap_alloc_new _ _⟩
/-- The block of a row of so many. -/
def Wr (w : World) (B C : Nat) (a : Option Addr) (n : Nat) : Prop := 0 < n → ∃ g cs, a = some ⟨g, 0, none⟩ ∧ B ≤ g ∧ g < C ∧ w.heap[g]? = some (.cells cs 3 (0, 0)) ∧ n ≤ cs.size
theorem Wr.on {w x : World} {B C : Nat} {a : Option Addr} {n : Nat} (h : Wr w B C a n) (hb : Below w.heap.size w x) : Wr x B C a n := fun hn => by
  obtain ⟨g, cs, e, h1, h2, h3, h4⟩ := h hn
  exact ⟨g, cs, e, h1, h2, (hb.block g (lt_of_heap h3)).trans h3, h4⟩
theorem Wr.far1 {w : World} {B C q : Nat} {a : Option Addr} {n : Nat} (h : Wr w B C a n) (hq : q < B ∨ C ≤ q) (j : Nat) (v : Value) : Wr (w.setCell ⟨q, j, none⟩ v) B C a n := fun hn => by
  obtain ⟨g, cs, e, h1, h2, h3, h4⟩ := h hn
  exact ⟨g, cs, e, h1, h2, (heap_setCell_other w ⟨q, j, none⟩ g v (by simp only; omega)).trans h3, h4⟩
theorem Wr.set {w : World} {B C g : Nat} {n : Nat} {cs : Array Value} (hg : w.heap[g]? = some (.cells cs 3 (0, 0))) (h1 : B ≤ g) (h2 : g < C) (h4 : n ≤ cs.size) (j : Nat) (v : Value) : Wr (w.setCell ⟨g, j, none⟩ v) B C (some ⟨g, 0, none⟩) n := fun _ =>
  ⟨g, cs.setIfInBounds j v, rfl, h1, h2, heap_setCell_same _ _ j _ _ v hg, by simpa using h4⟩
set_option maxRecDepth 100000 in
set_option maxHeartbeats 3200000 in
theorem plantOwn_walk (c : Cf) (p : Pt) (a : Option Addr) (k : Nat) (m d : Int) (w : World) (hr : SRw w a k p.start) :
    Calls Try.prog 8 #[cfV c, ptV p a k, .int .i64 m, .int .i64 d] w fun r w' => r = .returned (.bool true) ∧ Below w.heap.size w w' := by
  obtain ⟨hB, hP, hX⟩ := boxes w c p a k hr
  obtain ⟨x, hx⟩ : ∃ x, x = (w.alloc (.cells #[.int .i64 c.min, .int .i64 c.max, .int .i64 c.rate, .int .i64 c.stable, .int .i64 c.cap, .int .i64 c.delay, .int .i64 c.slack, .int .i64 c.window, .int .i64 c.margin, .int .i64 c.ceil, .int .i64 c.probe, .int .i64 c.breach] 23)).alloc (.cells #[.int .i64 p.ready, .slice a p.start.length k, .int .i64 p.wait, .int .i64 p.util] 26) := ⟨_, rfl⟩
  rw [← hx] at hB hP hX
  have HB := Lib.hid hB
  have HP := Lib.hid hP
  have X0 := Lib.hid hX
  have HX := Lib.hid hx
  clear hB hP hX hx hr
  unfold cfV ptV
  go_enter Try.func8, Try.ntmps8
  go_wp2_with fail
  rw [← HX.out]
  refine (qhead_any _).mono ?_
  rintro r w1 ⟨rfl, b⟩
  clear HX
  have HP := Lib.hid (HP.out.on b)
  have X0 := Lib.hid (X0.out.on b)
  have HB := Lib.hid (bel2 HB.out b)
  clear b
  go_wp2_with (first
    | (refine wpList_load_rowG (by first | rfl | kernel_rfl | (simp [Region.wanted, yielded])) 23 (.tmp 4) (by rfl) (w.heap.size) (by rfl) 23 _ (0, 0) _ HP.out Try.underlying23 (by rfl) (by kernel_rfl) ?_)
    | fail)
  refine (dconf_any c _).mono ?_
  rintro r w2 ⟨rfl, b⟩
  have HP := Lib.hid (HP.out.on b)
  have X0 := Lib.hid (X0.out.on b)
  have HB := Lib.hid (bel2 HB.out b)
  clear b
  cases hc9 : confR c
  · clear hc9
    go_wp2
    go_ret
    exact ⟨rfl, HB.out⟩
  have HC := Lib.hid hc9
  clear hc9
  have q0 : w2.cell? ⟨w.heap.size + 1, 0, none⟩ = some (.int .i64 p.ready) := (PtAt.c X0.out.at_).1
  have q1 : w2.cell? ⟨w.heap.size + 1, 1, none⟩ = some (.slice a p.start.length k) := (PtAt.c X0.out.at_).2.1
  have q2 : w2.cell? ⟨w.heap.size + 1, 2, none⟩ = some (.int .i64 p.wait) := (PtAt.c X0.out.at_).2.2.1
  have q3 : w2.cell? ⟨w.heap.size + 1, 3, none⟩ = some (.int .i64 p.util) := (PtAt.c X0.out.at_).2.2.2
  by_cases h8 : 8 < p.start.length
  · have h8' : (8 : Int) < (p.start.length : Int) := by omega
    go_wp2
    go_ret
    exact ⟨rfl, HB.out⟩
  have h8' : decide ((8 : Int) < (p.start.length : Int)) = false := decide_eq_false (by omega)
  clear h8
  go_wp2_with fail
  refine (rtright_any X0.out.row).mono ?_
  rintro r w3 ⟨rfl, b⟩
  have HP := Lib.hid (HP.out.on b)
  have X0 := Lib.hid (X0.out.on b)
  have HB := Lib.hid (bel2 HB.out b)
  clear b
  clear q0 q1 q2 q3
  cases hk9 : okT p
  · clear hk9
    go_wp2
    go_ret
    exact ⟨rfl, HB.out⟩
  have HK := Lib.hid hk9
  clear hk9 h8'
  obtain ⟨r1, l1, t1, u1, hP1⟩ : ∃ pr l pw pu, Plt.step c p m d = ⟨pr, l, pw, pu⟩ := ⟨_, _, _, _, rfl⟩
  obtain ⟨mc1, mb1, hM1⟩ : ∃ mc mb, Plt.mark c p m d = (mc, mb) := ⟨_, _, rfl⟩
  have HP1 := Lib.hid hP1
  have HM1 := Lib.hid hM1
  clear hP1 hM1
  have h8 := (TOk.of HK.out).len
  have ok1 := step_ok (CQ.of HC.out) (TOk.of HK.out) m d
  rw [HP1.out] at ok1
  have h81 : l1.length ≤ 8 := (TOk.of ok1).len
  have H8 := Lib.hid h8
  have H81 := Lib.hid h81
  clear h8 h81 ok1
  have q0 : w3.cell? ⟨w.heap.size + 1, 0, none⟩ = some (.int .i64 p.ready) := (PtAt.c X0.out.at_).1
  have q1 : w3.cell? ⟨w.heap.size + 1, 1, none⟩ = some (.slice a p.start.length k) := (PtAt.c X0.out.at_).2.1
  have q2 : w3.cell? ⟨w.heap.size + 1, 2, none⟩ = some (.int .i64 p.wait) := (PtAt.c X0.out.at_).2.2.1
  have q3 : w3.cell? ⟨w.heap.size + 1, 3, none⟩ = some (.int .i64 p.util) := (PtAt.c X0.out.at_).2.2.2
  go_upto_region 5 with fail
  clear q0 q1 q2 q3
  obtain ⟨b, hX⟩ := one_box w3 p a k p.start.length rfl
  have l0 : Hid (w.heap.size + 1 < w3.heap.size) := lt_of_heap X0.out.at_
  have AP0 : Hid (Apart a p.start w3.heap.size) := X0.out.row.apart (Nat.le_refl _)
  generalize hw9 : w3.alloc (.cells #[.int .i64 p.ready, .slice a p.start.length k, .int .i64 p.wait, .int .i64 p.util] 26) = xA at *
  have HP := Lib.hid (HP.out.on b)
  have X0 := Lib.hid (X0.out.on b)
  have HB := Lib.hid (bel2 HB.out b)
  clear b
  have XP := Lib.hid hX
  have lA : Hid (w3.heap.size < xA.heap.size) := lt_of_heap hX
  clear hX hw9
  have own0 : OwnV (xA.alloc (.cells #[] 3)) xA.heap.size 3 (.slice (some ⟨xA.heap.size, 0, none⟩) 0 0) (i64V []) := OwnV.lit_ (w := xA) 3 [] (Nat.le_refl _) (by decide)
  have be := bel1 (Below.refl xA.heap.size xA) (.cells #[] 3)
  have HRs := Lib.hid (X0.out.row.on be)
  have c1 : (xA.alloc (.cells #[] 3)).cell? ⟨w.heap.size + 1, 1, none⟩ = some (.slice a p.start.length k) := (PtAt.c (X0.out.at_.on be)).2.1
  have hln : (p.start : List Int).length ≤ 8 := H8.out
  go_upto_region 6 with (first | (at_builtin; refine wpList_append_ints rfl (.tmp 32) (.tmp 34) 24 rfl (xA.heap.size) 3 Try.underlying24 info_int (.slice (some ⟨xA.heap.size, 0, none⟩) 0 0) [] (by rfl) own0 _ a _ k p.start (by rfl) HRs.out.row rfl HRs.out.nil_ (by simp; omega) (by simp) ?_; intro v5 u5 hown hg hat; rw [List.nil_append] at hown; obtain ⟨a5, k5, rfl, s5, b5, g5⟩ := own_all hown; have hb : Below xA.heap.size xA u5 := Below.grown be hg (by simp) (fun j hj => by simp [Value.ownBlock] at hj; omega); clear own0 be HRs c1 hown hg hat; have cb := (PtAt.c (XP.out.on hb)).2.1; have fb := frozen_of_row u5 (w3.heap.size) 1 _ _ (XP.out.on hb)) | fail)
  have XP := Lib.hid ((XP.out.on hb).row1 (a2 := a5) (k2 := k5))
  have S5 := Lib.hid (SRw.far1A s5 (q := w3.heap.size) (fun h b o e => by have := b5 b o e; have := lA.out; omega) 1 (.slice a5 p.start.length k5))
  have X0 := Lib.hid ((X0.out.on hb).far1 (q := w3.heap.size) (by have := l0.out; omega) AP0.out 1 (.slice a5 p.start.length k5))
  have HP := Lib.hid ((HP.out.on hb).far1 (q := w3.heap.size) (by have := l0.out; omega) 1 (.slice a5 p.start.length k5))
  have hb2 := (bel2 HB.out hb).setCell (p := ⟨w3.heap.size, 1, none⟩) (by have := l0.out; simp; omega) (.slice a5 p.start.length k5)
  have HB := Lib.hid hb2
  have hW : Wr u5 xA.heap.size u5.heap.size a5 p.start.length := fun hn => by obtain ⟨g, cs, e, h1, h2, h3⟩ := g5 hn; exact ⟨g, cs, e, h1, lt_of_heap h2, h2, h3⟩
  have HW := Lib.hid (hW.far1 (q := w3.heap.size) (.inl lA.out) 1 (.slice a5 p.start.length k5))
  have hsz : (u5.setCell ⟨w3.heap.size, 1, none⟩ (.slice a5 p.start.length k5)).heap.size = u5.heap.size := by simp
  have hA5 : Hid (xA.heap.size ≤ u5.heap.size) := hb.size
  generalize u5.setCell ⟨w3.heap.size, 1, none⟩ (.slice a5 p.start.length k5) = xB at *
  rw [← hsz] at HW hA5
  have XP := Lib.hid (PvA.mk XP.out S5.out)
  clear S5 hW hb hb2 s5 b5 g5 cb fb hsz hln
  have q0 : xB.cell? ⟨w3.heap.size, 0, none⟩ = some (.int .i64 p.ready) := (PtAt.c XP.out.at_).1
  have q1 : xB.cell? ⟨w3.heap.size, 1, none⟩ = some (.slice a5 p.start.length k5) := (PtAt.c XP.out.at_).2.1
  have q2 : xB.cell? ⟨w3.heap.size, 2, none⟩ = some (.int .i64 p.wait) := (PtAt.c XP.out.at_).2.2.1
  have q3 : xB.cell? ⟨w3.heap.size, 3, none⟩ = some (.int .i64 p.util) := (PtAt.c XP.out.at_).2.2.2
  go_wp2_with (first
    | (refine wpList_load_rowG (by first | rfl | kernel_rfl | (simp [Region.wanted, yielded])) 23 (.tmp 4) (by rfl) (w.heap.size) (by rfl) 23 _ (0, 0) _ HP.out Try.underlying23 (by rfl) (by kernel_rfl) ?_)
    | fail)
  refine (pstep_l p HK.out XP.out.row HC.out m d r1 l1 t1 u1 mc1 mb1 l1.length HP1.out HM1.out rfl).mono ?_
  rintro r v1 ⟨a1, k1, rfl, hs2, ho2, b⟩
  have lB : Hid (xB.heap.size ≤ v1.heap.size) := b.size
  have HO1 := Lib.hid ho2
  clear ho2
  have HP := Lib.hid (HP.out.on b)
  have X0 := Lib.hid (X0.out.on b)
  have XP := Lib.hid (XP.out.on b)
  have HW := Lib.hid (HW.out.on b)
  have HB := Lib.hid (bel2 HB.out b)
  clear b
  go_upto_region 7 with fail
  obtain ⟨b, hX, hM⟩ := two_new v1 r1 l1 t1 u1 a1 k1 mc1 mb1 l1.length rfl hs2
  generalize hw9 : (v1.alloc (.cells #[.int .i64 r1, .slice a1 l1.length k1, .int .i64 t1, .int .i64 u1] 26)).alloc (.cells #[.int .i64 mc1, .bool mb1] 31) = x1 at *
  have HP := Lib.hid (HP.out.on b)
  have X0 := Lib.hid (X0.out.on b)
  have XP := Lib.hid (XP.out.on b)
  have HW := Lib.hid (HW.out.on b)
  have HB := Lib.hid (bel2 HB.out b)
  clear b
  have X1 := Lib.hid hX
  have M1 := Lib.hid hM
  clear hX hM hs2 hw9
  clear q0 q1 q2 q3
  have q0 : x1.cell? ⟨w3.heap.size, 0, none⟩ = some (.int .i64 p.ready) := (PtAt.c XP.out.at_).1
  have q1 : x1.cell? ⟨w3.heap.size, 1, none⟩ = some (.slice a5 p.start.length k5) := (PtAt.c XP.out.at_).2.1
  have q2 : x1.cell? ⟨w3.heap.size, 2, none⟩ = some (.int .i64 p.wait) := (PtAt.c XP.out.at_).2.2.1
  have q3 : x1.cell? ⟨w3.heap.size, 3, none⟩ = some (.int .i64 p.util) := (PtAt.c XP.out.at_).2.2.2
  have s0 : x1.cell? ⟨w.heap.size + 1, 0, none⟩ = some (.int .i64 p.ready) := (PtAt.c X0.out.at_).1
  have s1 : x1.cell? ⟨w.heap.size + 1, 1, none⟩ = some (.slice a p.start.length k) := (PtAt.c X0.out.at_).2.1
  have s2 : x1.cell? ⟨w.heap.size + 1, 2, none⟩ = some (.int .i64 p.wait) := (PtAt.c X0.out.at_).2.2.1
  have s3 : x1.cell? ⟨w.heap.size + 1, 3, none⟩ = some (.int .i64 p.util) := (PtAt.c X0.out.at_).2.2.2
  go_wp2_with fail
  refine (rtsame_any (p := p) XP.out.row X0.out.row).mono ?_
  rintro r y2 ⟨rfl, b⟩
  have XP := Lib.hid (XP.out.on b)
  have X1 := Lib.hid (X1.out.on b)
  have HW := Lib.hid (HW.out.on b)
  have HB := Lib.hid (bel2 HB.out b)
  clear b
  clear q0 q1 q2 q3
  clear s0 s1 s2 s3
  have q0 : y2.cell? ⟨v1.heap.size, 0, none⟩ = some (.int .i64 r1) := (PtAt.c X1.out.at_).1
  have q1 : y2.cell? ⟨v1.heap.size, 1, none⟩ = some (.slice a1 l1.length k1) := (PtAt.c X1.out.at_).2.1
  have q2 : y2.cell? ⟨v1.heap.size, 2, none⟩ = some (.int .i64 t1) := (PtAt.c X1.out.at_).2.2.1
  have q3 : y2.cell? ⟨v1.heap.size, 3, none⟩ = some (.int .i64 u1) := (PtAt.c X1.out.at_).2.2.2
  go_upto_region 10 with fail
  clear q0 q1 q2 q3
  obtain ⟨b, hX⟩ := one_box y2 ⟨r1, l1, t1, u1⟩ a1 k1 l1.length rfl
  simp only at b hX
  have l1y : Hid (v1.heap.size < y2.heap.size) := lt_of_heap X1.out.at_
  have AP1 : Hid (Apart a1 l1 y2.heap.size) := X1.out.row.apart (Nat.le_refl _)
  generalize hw9 : y2.alloc (.cells #[.int .i64 r1, .slice a1 l1.length k1, .int .i64 t1, .int .i64 u1] 26) = xC at *
  have XP := Lib.hid (XP.out.on b)
  have X1 := Lib.hid (X1.out.on b)
  have HW := Lib.hid (HW.out.on b)
  have HB := Lib.hid (bel2 HB.out b)
  clear b
  have XQ := Lib.hid hX
  have lC : Hid (y2.heap.size < xC.heap.size) := lt_of_heap hX
  clear hX hw9
  have own0 : OwnV (xC.alloc (.cells #[] 3)) xC.heap.size 3 (.slice (some ⟨xC.heap.size, 0, none⟩) 0 0) (i64V []) := OwnV.lit_ (w := xC) 3 [] (Nat.le_refl _) (by decide)
  have be := bel1 (Below.refl xC.heap.size xC) (.cells #[] 3)
  have HRs := Lib.hid (X1.out.row.on be)
  have c1 : (xC.alloc (.cells #[] 3)).cell? ⟨v1.heap.size, 1, none⟩ = some (.slice a1 l1.length k1) := (PtAt.c (X1.out.at_.on be)).2.1
  have hln : (l1 : List Int).length ≤ 8 := H81.out
  go_upto_region 11 with (first | (at_builtin; refine wpList_append_ints rfl (.tmp 50) (.tmp 52) 24 rfl (xC.heap.size) 3 Try.underlying24 info_int (.slice (some ⟨xC.heap.size, 0, none⟩) 0 0) [] (by rfl) own0 _ a1 _ k1 l1 (by rfl) HRs.out.row rfl HRs.out.nil_ (by simp; omega) (by simp) ?_; intro v5 u6 hown hg hat; rw [List.nil_append] at hown; obtain ⟨a6, k6, rfl, s6, b6, g6⟩ := own_all hown; have hb : Below xC.heap.size xC u6 := Below.grown be hg (by simp) (fun j hj => by simp [Value.ownBlock] at hj; omega); clear own0 be HRs c1 hown hg hat; have cb := (PtAt.c (XQ.out.on hb)).2.1; have fb := frozen_of_row u6 (y2.heap.size) 1 _ _ (XQ.out.on hb)) | fail)
  have XQ := Lib.hid ((XQ.out.on hb).row1 (a2 := a6) (k2 := k6))
  simp only at XQ
  have S6 := Lib.hid (SRw.far1A s6 (q := y2.heap.size) (fun h b o e => by have := b6 b o e; have := lC.out; omega) 1 (.slice a6 l1.length k6))
  have X1 := Lib.hid ((X1.out.on hb).far1 (q := y2.heap.size) (by have := l1y.out; omega) AP1.out 1 (.slice a6 l1.length k6))
  have XP := Lib.hid ((XP.out.at_.on hb).far1 (q := y2.heap.size) (by have := l1y.out; have := lB.out; have := hA5.out; have := lA.out; omega) 1 (.slice a6 l1.length k6))
  have hb2 := (bel2 HB.out hb).setCell (p := ⟨y2.heap.size, 1, none⟩) (by have := l1y.out; have := lB.out; have := hA5.out; have := lA.out; have := l0.out; simp; omega) (.slice a6 l1.length k6)
  have HB := Lib.hid hb2
  have HW := Lib.hid ((HW.out.on hb).far1 (q := y2.heap.size) (.inr (by have := l1y.out; have := lB.out; omega)) 1 (.slice a6 l1.length k6))
  have HO6 := Lib.hid b6
  generalize u6.setCell ⟨y2.heap.size, 1, none⟩ (.slice a6 l1.length k6) = xD at *
  have XQ := Lib.hid (PvA.mk (p := ⟨r1, l1, t1, u1⟩) XQ.out S6.out)
  clear S6 hb hb2 s6 b6 g6 cb fb hln
  go_wp2_with fail
  go_loopw [14] (fun i wx => ∃ j : Nat, j ≤ p.start.length ∧ i = .int .i64 (j : Int) ∧ PtAt wx w3.heap.size p a5 k5 ∧ PvA wx v1.heap.size ⟨r1, l1, t1, u1⟩ a1 k1 ∧ PvA wx y2.heap.size ⟨r1, l1, t1, u1⟩ a6 k6 ∧ Wr wx xA.heap.size xB.heap.size a5 p.start.length ∧ Below w.heap.size w wx) (fun i _ => p.start.length - (intOf i).toNat)
  case atStart => exact ⟨0, Nat.zero_le _, rfl, XP.out, X1.out, XQ.out, HW.out, HB.out⟩
  case round =>
    clear XP X1 XQ HW HB HP X0 M1
    obtain ⟨j, hj, rfl, hp, h1, hq, hw, hb⟩ := hrel
    have XP := Lib.hid hp
    have X1 := Lib.hid h1
    have XQ := Lib.hid hq
    have HW := Lib.hid hw
    have HB := Lib.hid hb
    clear hp h1 hq hw hb
    by_cases hlt : j < p.start.length
    · have hlt' : (j : Int) < (p.start.length : Int) := by omega
      have hj0 : (0 : Int) ≤ (j : Int) := by omega
      have HLT := Lib.hid hlt
      have wj : IntKind.i64.wrap ((j : Int) + 1) = (j : Int) + 1 := by have := H8.out; rw [IntKind.wrap_i64]; omega
      obtain ⟨g5, cs, rfl, hg1, hg2, hg3, hg4⟩ := HW.out (by omega)
      have c1 : wr.cell? ⟨w3.heap.size, 1, none⟩ = some (.slice (some ⟨g5, 0, none⟩) p.start.length k5) := (PtAt.c XP.out).2.1
      obtain ⟨u, hu⟩ : ∃ u, cs[j]? = some u := ⟨_, Array.getElem?_eq_getElem (by omega)⟩
      have ce : wr.cell? ⟨g5, j, none⟩ = some u := (cell_of_row _ _ _ _ _ _ hg3).trans hu
      have fe := frozen_of_row wr g5 j _ _ hg3
      have HG := Lib.hid (And.intro hg1 (And.intro hg2 hg4))
      have HG3 := Lib.hid hg3
      clear hlt hg1 hg2 hg3 hg4 hu
      go_wp2_with fail
      go_roundw
      case rel => exact ⟨j + 1, by have := HLT.out; omega, by go_num, XP.out.far1 (by have := HG.out; have := lA.out; omega) j _, X1.out.far1 (by have := HG.out; have := lB.out; omega) (apart_low HO1.out HG.out.2.1) j _, XQ.out.far1 (by have := HG.out; have := lB.out; have := l1y.out; omega) (apart_low HO6.out (by have := HG.out; have := lB.out; have := l1y.out; have := lC.out; omega)) j _, Wr.set HG3.out HG.out.1 HG.out.2.1 HG.out.2.2 j _, HB.out.setCell (p := ⟨g5, j, none⟩) (by have := HG.out; have := lA.out; have := l0.out; simp; omega) _⟩
      case measure => have := HLT.out; simp [intOf]; omega
    · have hlt' : ¬ (j : Int) < (p.start.length : Int) := by omega
      have c1 : wr.cell? ⟨w3.heap.size, 1, none⟩ = some (.slice a5 p.start.length k5) := (PtAt.c XP.out).2.1
      have q0 : wr.cell? ⟨v1.heap.size, 0, none⟩ = some (.int .i64 r1) := (PtAt.c X1.out.at_).1
      have q1 : wr.cell? ⟨v1.heap.size, 1, none⟩ = some (.slice a1 l1.length k1) := (PtAt.c X1.out.at_).2.1
      have q2 : wr.cell? ⟨v1.heap.size, 2, none⟩ = some (.int .i64 t1) := (PtAt.c X1.out.at_).2.2.1
      have q3 : wr.cell? ⟨v1.heap.size, 3, none⟩ = some (.int .i64 u1) := (PtAt.c X1.out.at_).2.2.2
      have s0 : wr.cell? ⟨y2.heap.size, 0, none⟩ = some (.int .i64 r1) := (PtAt.c XQ.out.at_).1
      have s1 : wr.cell? ⟨y2.heap.size, 1, none⟩ = some (.slice a6 l1.length k6) := (PtAt.c XQ.out.at_).2.1
      have s2 : wr.cell? ⟨y2.heap.size, 2, none⟩ = some (.int .i64 t1) := (PtAt.c XQ.out.at_).2.2.1
      have s3 : wr.cell? ⟨y2.heap.size, 3, none⟩ = some (.int .i64 u1) := (PtAt.c XQ.out.at_).2.2.2
      go_wp2_with fail
      refine (rtsame_any (p := ⟨r1, l1, t1, u1⟩) X1.out.row XQ.out.row).mono ?_
      rintro r y9 ⟨rfl, b⟩
      have HB := Lib.hid (bel2 HB.out b)
      go_wp2
      go_ret
      exact ⟨rfl, HB.out⟩
end Go.Proofs.Ytcfehddnccdejaa
