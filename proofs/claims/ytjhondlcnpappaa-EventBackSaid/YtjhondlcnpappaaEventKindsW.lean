/- EventKinds: the walk. -/
import Derived.Test.YtjhondlcnpappaaEvHe
namespace Go.Proofs.Ytjhondlcnpappaa
open Go.RowKit
open Wir Evn
attribute [local go_sem] Oper.semAt_some

theorem put_len {e : Ev} (h : Ev64 e) : (putR e).length ≤ 1800 := by
  unfold putR
  split
  · split
    · simp
    · omega
  · simp
set_option linter.unusedSimpArgs false in
set_option maxRecDepth 100000 in
set_option maxHeartbeats 6400000 in
theorem eventKinds_walk {w : World} {a1 a2 a3 : Option Addr} {c1 c2 c3 : Nat} (e : Ev) (hm : EvM w a1 a2 a3 c1 c2 c3 e) (k : Int) (hk : 0 ≤ k ∧ k ≤ 255) :
    Calls Try.prog 8 #[evV e a1 a2 a3 c1 c2 c3, .int .u8 k] w fun r w' => r = .returned (.bool true) ∧ Below w.heap.size w w' := by
  have hbv := box_var hm
  have HB := Lib.hid hbv
  clear hbv hm
  unfold evV
  go_enter Try.func8, Try.ntmps8
  go_wp2_with fail
  refine (head_any _).mono ?_
  rintro r w1 ⟨rfl, h1⟩
  have V1 := Lib.hid (HB.out.1.on h1)
  have B1 := Lib.hid (bel2 HB.out.2 h1)
  clear h1 HB
  go_wp2_with (first | (refine wpList_load_row (by rfl) 30 (.tmp 2) (by rfl) w.heap.size (by rfl) 30 (evC e a1 a2 a3 c1 c2 c3) (0, 0) _ V1.out.cells Try.underlying30 (by rfl) (by kernel_rfl) ?_))
  refine (great_any e a1 a2 a3 c1 c2 c3 _).mono ?_
  rintro r w2 ⟨rfl, h2⟩
  have V2 := Lib.hid (V1.out.on h2)
  have B2 := Lib.hid (bel2 B1.out h2)
  clear h2 V1 B1
  cases hg : grtR e
  rotate_left
  · clear hg
    go_wp2
    go_ret
    exact ⟨rfl, B2.out⟩
  have hgr : e.pol.bands.length ≤ 60 ∧ e.pol.slots.length ≤ 60 ∧ e.body.length ≤ 3000 := by
    have := of_decide_eq_false hg
    omega
  have HG := Lib.hid hgr
  clear hg hgr
  go_wp2_with (first | (refine wpList_load_row (by rfl) 30 (.tmp 2) (by rfl) w.heap.size (by rfl) 30 (evC e a1 a2 a3 c1 c2 c3) (0, 0) _ V2.out.cells Try.underlying30 (by rfl) (by kernel_rfl) ?_))
  refine (put_any e V2.out.mem (by have := HG.out; omega) (by have := HG.out; omega) (by have := HG.out; omega)).mono ?_
  rintro r w3 ⟨pa, pc, rfl, hs, hb⟩
  have V3 := Lib.hid (V2.out.on hb)
  have B3 := Lib.hid (bel2 B2.out hb)
  have S3 := Lib.hid hs
  clear hb hs V2 B2
  have hqb : -1 ≤ k % 12 - 1 ∧ k % 12 - 1 ≤ 10 := by omega
  go_wp2_with fail
  generalize k % 12 - 1 = q at hqb ⊢
  have hby := S3.out.byte
  have hl := put_len V3.out.mem.v64
  refine (get_any q ⟨by omega, by omega⟩ S3.out (by omega)).mono ?_
  rintro r w4 ⟨d1, d2, d3, f1, f2, f3, rfl, hm4, hb4⟩
  obtain ⟨w5, e5, v5, b5⟩ := new_var hm4
  have V5 := Lib.hid ((V3.out.on hb4).on b5)
  have B5 := Lib.hid (bel2 (bel2 B3.out hb4) b5)
  have X5 := Lib.hid v5
  have HE := Lib.hid e5
  have HBY := Lib.hid hby
  clear hm4 hb4 v5 b5 e5 V3 B3 S3 hby hl
  by_cases hq : 1 ≤ q ∧ q ≤ 8
  rotate_left
  · have hg := get_none hq (putR e)
    rw [hg] at X5 HE
    rw [hg]
    have n1 : (q < 1 ∧ decide (q < 1) = true) ∨ (¬ q < 1 ∧ decide (q < 1) = false ∧ decide (8 < q) = true) := by
      by_cases h1 : q < 1
      · exact .inl ⟨h1, by simpa using h1⟩
      · exact .inr ⟨h1, by simpa using h1, by simp; omega⟩
    have HQ := Lib.hid (And.intro hq hqb)
    clear hq hqb hg
    rcases n1 with ⟨n0, n1⟩ | ⟨n0, n1, n2⟩
    · clear n0
      go_wp2_with (first | (refine wpList_store_mid (by rfl) 30 (.tmp 8) (.tmp 24) (by rfl) w4.heap.size 0 (evC (ofKind 0) d1 d2 d3 f1 f2 f3) (by rfl) (by rfl) (there_new _ _) (by kernel_rfl) (by kernel_rfl) ?_; rw [HE.out]) | (refine wpList_load_rowG ?_ 30 (.tmp 8) (by rfl) w4.heap.size (by rfl) 30 (evC (ofKind 0) d1 d2 d3 f1 f2 f3) (0, 0) _ X5.out.cells Try.underlying30 (by rfl) (by kernel_rfl) ?_; focus (first | rfl | (simp [Region.wanted, yielded]; done) | (simp [Region.wanted, yielded, *]; done))))
      refine (same_to (evSame_iff.2 rfl) X5.out.mem (evm_lit (ofKind64 i64_0) rfl rfl rfl)).mono ?_
      rintro r w6 ⟨rfl, hb⟩
      have B6 := Lib.hid (bel2 B5.out hb)
      clear hb
      go_wp2
      go_ret
      exact ⟨rfl, B6.out⟩
    · clear n0
      go_wp2_with (first | (refine wpList_store_mid (by rfl) 30 (.tmp 8) (.tmp 24) (by rfl) w4.heap.size 0 (evC (ofKind 0) d1 d2 d3 f1 f2 f3) (by rfl) (by rfl) (there_new _ _) (by kernel_rfl) (by kernel_rfl) ?_; rw [HE.out]) | (refine wpList_load_rowG ?_ 30 (.tmp 8) (by rfl) w4.heap.size (by rfl) 30 (evC (ofKind 0) d1 d2 d3 f1 f2 f3) (0, 0) _ X5.out.cells Try.underlying30 (by rfl) (by kernel_rfl) ?_; focus (first | rfl | (simp [Region.wanted, yielded]; done) | (simp [Region.wanted, yielded, *]; done))))
      refine (same_to (evSame_iff.2 rfl) X5.out.mem (evm_lit (ofKind64 i64_0) rfl rfl rfl)).mono ?_
      rintro r w6 ⟨rfl, hb⟩
      have B6 := Lib.hid (bel2 B5.out hb)
      clear hb
      go_wp2
      go_ret
      exact ⟨rfl, B6.out⟩
  have n1 : decide (q < 1) = false := by simp; omega
  have n2 : decide (8 < q) = false := by simp; omega
  have HQ := Lib.hid (And.intro hq hqb)
  clear hq hqb
  have hback : (getR q (putR e)).2 = 0 → rightR (getR q (putR e)).1 = true ∧ (getR q (putR e)).1.kind = q := fun h => by
    have := get_back HBY.out h
    exact ⟨this.1, this.2.1⟩
  have hno : (getR q (putR e)).2 ≠ 0 → (getR q (putR e)).1 = ofKind 0 := get_no HBY.out
  have hown : rightR e = true → q = e.kind → getR q (putR e) = (e, 0) := fun h1 h2 => by
    rw [h2, put_right h1 V5.out.mem.v64]
    exact get_put h1 V5.out.mem.v64
  have hempty : rightR e = false → putR e = [] := put_wrong
  have hpos : rightR e = true → 0 < (putR e).length := fun h => by rw [put_right h V5.out.mem.v64]; exact code_pos h
  have k0 : w5.cell? ⟨w.heap.size, 0, none⟩ = some (.int .i64 e.kind) := evC_cell V5.out.cells 0 _ rfl
  generalize hge : getR q (putR e) = g at *
  obtain ⟨y, f⟩ := g
  have HN := Lib.hid (And.intro hback (And.intro hno (And.intro hown (And.intro hempty hpos))))
  clear hback hno hown hempty hpos hge
  simp only at HN X5 HE ⊢
  have ky : w5.cell? ⟨w4.heap.size, 0, none⟩ = some (.int .i64 y.kind) := evC_cell X5.out.cells 0 _ rfl
  cases hr : rightR e
  · have hz : (putR e).length = 0 := by rw [HN.out.2.2.2.1 hr]; rfl
    have HR := Lib.hid hr
    rw [hz]
    clear hr hz
    by_cases hf : f = 0
    · have hb := HN.out.1 hf
      subst hf
      have HF := Lib.hid hb
      rw [hb.2] at ky
      clear hb
      go_wp2_with (first | (refine wpList_store_mid (by rfl) 30 (.tmp 8) (.tmp 24) (by rfl) w4.heap.size 0 (evC y d1 d2 d3 f1 f2 f3) (by rfl) (by rfl) (there_new _ _) (by kernel_rfl) (by kernel_rfl) ?_; rw [HE.out]) | (refine wpList_load_rowG ?_ 30 (.tmp 8) (by rfl) w4.heap.size (by rfl) 30 (evC y d1 d2 d3 f1 f2 f3) (0, 0) _ X5.out.cells Try.underlying30 (by rfl) (by kernel_rfl) ?_; focus (first | rfl | (simp [Region.wanted, yielded]; done) | (simp [Region.wanted, yielded, *]; done))))
      refine (right_to HF.out.1 X5.out.mem).mono ?_
      rintro r w6 ⟨rfl, hb⟩
      have B6 := Lib.hid (bel2 B5.out hb)
      clear hb
      go_wp2
      go_ret
      exact ⟨rfl, B6.out⟩
    · have hy := HN.out.2.1 hf
      subst hy
      have nf : (((f : Nat) : Int) == 0) = false := by simpa using hf
      have HF := Lib.hid hf
      go_wp2_with (first | (refine wpList_store_mid (by rfl) 30 (.tmp 8) (.tmp 24) (by rfl) w4.heap.size 0 (evC (ofKind 0) d1 d2 d3 f1 f2 f3) (by rfl) (by rfl) (there_new _ _) (by kernel_rfl) (by kernel_rfl) ?_; rw [HE.out]) | (refine wpList_load_rowG ?_ 30 (.tmp 8) (by rfl) w4.heap.size (by rfl) 30 (evC (ofKind 0) d1 d2 d3 f1 f2 f3) (0, 0) _ X5.out.cells Try.underlying30 (by rfl) (by kernel_rfl) ?_; focus (first | rfl | (simp [Region.wanted, yielded]; done) | (simp [Region.wanted, yielded, *]; done))))
      refine (same_to (evSame_iff.2 rfl) X5.out.mem (evm_lit (ofKind64 i64_0) rfl rfl rfl)).mono ?_
      rintro r w6 ⟨rfl, hb⟩
      have B6 := Lib.hid (bel2 B5.out hb)
      clear hb
      go_wp2
      go_ret
      exact ⟨rfl, B6.out⟩
  have hz := HN.out.2.2.2.2 hr
  have hz1 : decide ((0 : Int) < ((putR e).length : Int)) = true := by simp; omega
  have HR := Lib.hid (And.intro hr hz)
  clear hr
  by_cases hk2 : q = e.kind
  · have hg := HN.out.2.2.1 HR.out.1 hk2
    injection hg with hg1 hg2
    subst hg1 hg2
    rw [← hk2] at k0
    have HK := Lib.hid hk2
    clear hk2
    go_wp2_with (first | (refine wpList_store_mid (by rfl) 30 (.tmp 8) (.tmp 24) (by rfl) w4.heap.size 0 (evC y d1 d2 d3 f1 f2 f3) (by rfl) (by rfl) (there_new _ _) (by kernel_rfl) (by kernel_rfl) ?_; rw [HE.out]) | (refine wpList_load_rowG ?_ 30 (.tmp 8) (by rfl) w4.heap.size (by rfl) 30 (evC y d1 d2 d3 f1 f2 f3) (0, 0) _ X5.out.cells Try.underlying30 (by rfl) (by kernel_rfl) ?_; focus (first | rfl | (simp [Region.wanted, yielded]; done) | (simp [Region.wanted, yielded, *]; done))) | (refine wpList_load_rowG ?_ 30 (.tmp 2) (by rfl) w.heap.size (by rfl) 30 (evC y a1 a2 a3 c1 c2 c3) (0, 0) _ V5.out.cells Try.underlying30 (by rfl) (by kernel_rfl) ?_; focus (first | rfl | (simp [Region.wanted, yielded]; done) | (simp [Region.wanted, yielded, *]; done))))
    refine (same_to (evSame_iff.2 rfl) X5.out.mem V5.out.mem).mono ?_
    rintro r w6 ⟨rfl, hb⟩
    have B6 := Lib.hid (bel2 B5.out hb)
    clear hb
    go_wp2
    go_ret
    exact ⟨rfl, B6.out⟩
  · have ne : (q == e.kind) = false := by simpa using hk2
    have HK := Lib.hid hk2
    clear hk2
    by_cases hf : f = 0
    · have hb := HN.out.1 hf
      subst hf
      have HF := Lib.hid hb
      rw [hb.2] at ky
      clear hb
      go_wp2_with (first | (refine wpList_store_mid (by rfl) 30 (.tmp 8) (.tmp 24) (by rfl) w4.heap.size 0 (evC y d1 d2 d3 f1 f2 f3) (by rfl) (by rfl) (there_new _ _) (by kernel_rfl) (by kernel_rfl) ?_; rw [HE.out]) | (refine wpList_load_rowG ?_ 30 (.tmp 8) (by rfl) w4.heap.size (by rfl) 30 (evC y d1 d2 d3 f1 f2 f3) (0, 0) _ X5.out.cells Try.underlying30 (by rfl) (by kernel_rfl) ?_; focus (first | rfl | (simp [Region.wanted, yielded]; done) | (simp [Region.wanted, yielded, *]; done))))
      refine (right_to HF.out.1 X5.out.mem).mono ?_
      rintro r w6 ⟨rfl, hb⟩
      have B6 := Lib.hid (bel2 B5.out hb)
      clear hb
      go_wp2
      go_ret
      exact ⟨rfl, B6.out⟩
    · have hy := HN.out.2.1 hf
      subst hy
      have nf : (((f : Nat) : Int) == 0) = false := by simpa using hf
      have HF := Lib.hid hf
      go_wp2_with (first | (refine wpList_store_mid (by rfl) 30 (.tmp 8) (.tmp 24) (by rfl) w4.heap.size 0 (evC (ofKind 0) d1 d2 d3 f1 f2 f3) (by rfl) (by rfl) (there_new _ _) (by kernel_rfl) (by kernel_rfl) ?_; rw [HE.out]) | (refine wpList_load_rowG ?_ 30 (.tmp 8) (by rfl) w4.heap.size (by rfl) 30 (evC (ofKind 0) d1 d2 d3 f1 f2 f3) (0, 0) _ X5.out.cells Try.underlying30 (by rfl) (by kernel_rfl) ?_; focus (first | rfl | (simp [Region.wanted, yielded]; done) | (simp [Region.wanted, yielded, *]; done))))
      refine (same_to (evSame_iff.2 rfl) X5.out.mem (evm_lit (ofKind64 i64_0) rfl rfl rfl)).mono ?_
      rintro r w6 ⟨rfl, hb⟩
      have B6 := Lib.hid (bel2 B5.out hb)
      clear hb
      go_wp2
      go_ret
      exact ⟨rfl, B6.out⟩
end Go.Proofs.Ytjhondlcnpappaa
