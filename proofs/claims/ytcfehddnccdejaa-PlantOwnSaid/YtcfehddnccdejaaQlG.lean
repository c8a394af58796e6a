/- The document's Right of a plant. -/
import Derived.Test.YtcfehddnccdejaaQlE
import Derived.Deep.CutRange
import Derived.Deep.RegionHeld
import Derived.Lib.MinMax
namespace Go.Proofs.Ytcfehddnccdejaa
set_option linter.unusedSimpArgs false
set_option linter.unusedVariables false
open Go.RowKit
open Evn Plt
attribute [local go_sem] Oper.semAt_some

set_option maxRecDepth 100000 in
set_option maxHeartbeats 1600000 in
theorem rtright_any {w : World} {p : Pt} {a : Option Addr} {k : Nat} (h : SRw w a k p.start) :
    Calls Try.prog 11 #[ptV p a k] w fun r w' => r = .returned (.bool (okT p)) ∧ Below w.heap.size w w' := by
  have hle := h.row.le
  have hmx := h.row.max
  unfold maxLen at hmx
  obtain ⟨x, hx⟩ : ∃ x, x = w.alloc (.cells #[.int .i64 p.ready, .slice a p.start.length k, .int .i64 p.wait, .int .i64 p.util] 26) := ⟨_, rfl⟩
  have hB : Below w.heap.size w x := by rw [hx]; exact bel1 (Below.refl _ _) _
  have hP : PtAt x w.heap.size p a k := by rw [hx]; exact heap_alloc_new _ _
  have HR := Lib.hid (h.on hB)
  have HB := Lib.hid hB
  have HP := Lib.hid hP
  have HX := Lib.hid hx
  clear hB hP hx h
  obtain ⟨c0, c1, c2, c3⟩ := PtAt.c HP.out
  obtain ⟨B, hBq⟩ : ∃ B, decide ((0 ≤ p.ready ∧ p.ready ≤ 1000) ∧ p.start.length ≤ 8 ∧ (0 ≤ p.wait ∧ p.wait ≤ 1000000000) ∧ (0 ≤ p.util ∧ p.util ≤ 1000000000)) = B := ⟨_, rfl⟩
  have HBQ := Lib.hid hBq
  have HV : Hid (okT p = (B && (p.start.all (fun x => decide (0 ≤ x ∧ x ≤ 1000)) && decide (all p ≤ 1000)))) := by show _ = _; rw [← hBq]; rfl
  clear hBq
  obtain ⟨n, hn⟩ : ∃ n, p.start.length = n := ⟨_, rfl⟩
  have HN := Lib.hid hn
  rw [hn] at c1 hle HBQ
  unfold ptV
  rw [hn]
  clear hn
  go_enter Try.func11, Try.ntmps11
  go_upto_region 1 with fail
  rw [HN.out] at HX
  rw [← HX.out]
  go_cut [37] from 4 to 37 (fun v wx => v = .bool (!B) ∧ wx = x)
  case first =>
    by_cases q0 : 0 ≤ p.ready
    rotate_left
    · have r0 : p.ready < 0 := by omega
      have R0 := Lib.hid q0
      go_wp2_with fail
      go_meet
      case rel => exact ⟨congrArg Value.bool (by rw [← HBQ.out, decide_eq_false (fun h => by have := R0.out; omega)]; rfl), rfl⟩
    by_cases q1 : p.ready ≤ 1000
    rotate_left
    · have r1 : 1000 < p.ready := by omega
      have R1 := Lib.hid q1
      go_wp2_with fail
      go_meet
      case rel => exact ⟨congrArg Value.bool (by rw [← HBQ.out, decide_eq_false (fun h => by have := R1.out; omega)]; rfl), rfl⟩
    by_cases q2 : n ≤ 8
    rotate_left
    · have r2 : (8 : Int) < (n : Int) := by omega
      have R2 := Lib.hid q2
      go_wp2_with fail
      go_meet
      case rel => exact ⟨congrArg Value.bool (by rw [← HBQ.out, decide_eq_false (fun h => by have := R2.out; omega)]; rfl), rfl⟩
    by_cases q3 : 0 ≤ p.wait
    rotate_left
    · have r3 : p.wait < 0 := by omega
      have R3 := Lib.hid q3
      go_wp2_with fail
      go_meet
      case rel => exact ⟨congrArg Value.bool (by rw [← HBQ.out, decide_eq_false (fun h => by have := R3.out; omega)]; rfl), rfl⟩
    by_cases q4 : p.wait ≤ 1000000000
    rotate_left
    · have r4 : 1000000000 < p.wait := by omega
      have R4 := Lib.hid q4
      go_wp2_with fail
      go_meet
      case rel => exact ⟨congrArg Value.bool (by rw [← HBQ.out, decide_eq_false (fun h => by have := R4.out; omega)]; rfl), rfl⟩
    by_cases q5 : 0 ≤ p.util
    rotate_left
    · have r5 : p.util < 0 := by omega
      have R5 := Lib.hid q5
      go_wp2_with fail
      go_meet
      case rel => exact ⟨congrArg Value.bool (by rw [← HBQ.out, decide_eq_false (fun h => by have := R5.out; omega)]; rfl), rfl⟩
    by_cases q6 : p.util ≤ 1000000000
    rotate_left
    · have r6 : 1000000000 < p.util := by omega
      have R6 := Lib.hid q6
      go_wp2_with fail
      go_meet
      case rel => exact ⟨congrArg Value.bool (by rw [← HBQ.out, decide_eq_false (fun h => by have := R6.out; omega)]; rfl), rfl⟩
    have RR := Lib.hid (And.intro (And.intro q0 q1) (And.intro q2 (And.intro (And.intro q3 q4) (And.intro q5 q6))))
    have q2' : (n : Int) ≤ 8 := by omega
    go_wp2_with fail
    go_meet
    case rel => exact ⟨congrArg Value.bool (by rw [← HBQ.out, decide_eq_true RR.out]; have h9 := RR.out; simp; omega), rfl⟩
  case rest =>
  obtain ⟨rfl, hw⟩ := hcut
  obtain rfl := hw.symm
  cases B
  · have hv : okT p = false := by rw [HV.out]; rfl
    have HV2 := Lib.hid hv
    clear hv
    go_wp2
    go_ret
    exact ⟨ret_bool HV2.out.symm, HB.out⟩
  · have hq := of_decide_eq_true HBQ.out
    have HQ := Lib.hid hq
    have hn8 : n ≤ 8 := hq.2.1
    clear hq
    go_wp2_with fail
    go_loopw [3] (fun i wx => ∃ j : Nat, j ≤ n ∧ i = .int .i64 (j : Int) ∧ (∀ e, e < j → 0 ≤ p.start.getD e 0 ∧ p.start.getD e 0 ≤ 1000) ∧ wx = x) (fun i _ => n - (intOf i).toNat)
    case atStart => exact ⟨0, Nat.zero_le _, rfl, fun e he => absurd he (by omega), rfl⟩
    case round =>
      obtain ⟨j, hj, rfl, hs, rfl⟩ := hrel
      have HS := Lib.hid hs
      clear hs
      by_cases hlt : j < n
      · have hlt' : (j : Int) < (n : Int) := by omega
        have hj0 : (0 : Int) ≤ (j : Int) := by omega
        have HK := Lib.hid hlt
        obtain ⟨b, o, rfl, hbl, hc⟩ := HR.out.cell (j := j) (by rw [HN.out]; exact hlt)
        obtain ⟨v, hv⟩ : ∃ v, p.start.getD j 0 = v := ⟨_, rfl⟩
        have HVV := Lib.hid hv
        rw [hv] at hc
        clear hv hbl hlt
        have hbad : ¬ (0 ≤ v ∧ v ≤ 1000) → okT p = false := by
          intro hb
          rw [HV.out]
          have : p.start.all (fun x => decide (0 ≤ x ∧ x ≤ 1000)) = false := by
            rw [List.all_eq_false]
            refine ⟨p.start[j]'(by rw [HN.out]; exact HK.out), List.getElem_mem _, ?_⟩
            have h9 := HVV.out
            rw [List.getD_eq_getElem?_getD, List.getElem?_eq_getElem (by rw [HN.out]; exact HK.out)] at h9
            simp only [Option.getD_some] at h9
            rw [h9]
            simpa using hb
          rw [this]; rfl
        have HBD := Lib.hid hbad
        clear hbad
        by_cases z1 : 0 ≤ v
        rotate_left
        · have y1 : v < 0 := by omega
          have Z1 := Lib.hid z1
          go_wp2
          go_ret
          exact ⟨ret_bool (HBD.out (fun h => by have := Z1.out; omega)).symm, HB.out⟩
        by_cases z2 : v ≤ 1000
        rotate_left
        · have y2 : 1000 < v := by omega
          have Z2 := Lib.hid z2
          go_wp2
          go_ret
          exact ⟨ret_bool (HBD.out (fun h => by have := Z2.out; omega)).symm, HB.out⟩
        have ZZ := Lib.hid (And.intro z1 z2)
        go_wp2_with fail
        go_roundw
        case rel =>
          refine ⟨j + 1, HK.out, by go_num, fun e he => ?_, by trivial⟩
          rcases Nat.lt_or_ge e j with h9 | h9
          · exact HS.out e h9
          · have : e = j := by omega
            rw [this, HVV.out]
            exact ZZ.out
        case measure => have := HK.out; simp [intOf]; omega
      · have hlt' : ¬ (j : Int) < (n : Int) := by omega
        have hjn : j = n := by omega
        have hnums : ∀ y ∈ p.start, 0 ≤ y ∧ y ≤ 1000 := by
          intro y hy
          obtain ⟨e, he, hye⟩ := List.mem_iff_getElem.1 hy
          have h9 := HS.out e (by rw [hjn, ← HN.out]; exact he)
          rw [List.getD_eq_getElem?_getD, List.getElem?_eq_getElem he] at h9
          simp only [Option.getD_some] at h9
          rw [← hye]; exact h9
        have hnok : NOk p := ⟨HQ.out.1.1, HQ.out.1.2, by rw [HN.out]; exact HQ.out.2.1, hnums⟩
        have HALL := Lib.hid (rall_any hnok HR.out)
        have hfin : okT p = decide (all p ≤ 1000) := by
          rw [HV.out]
          have : p.start.all (fun x => decide (0 ≤ x ∧ x ≤ 1000)) = true := List.all_eq_true.2 (fun y hy => decide_eq_true (hnums y hy))
          rw [this]
          simp
        have HF := Lib.hid hfin
        clear hnums hnok hfin hjn
        have HPn : Hid (wr.heap[w.heap.size]? = some (.cells #[.int .i64 p.ready, .slice a n k, .int .i64 p.wait, .int .i64 p.util] 26 (0, 0))) := by
          have h9 := HP.out
          unfold PtAt at h9
          rw [HN.out] at h9
          exact h9
        have HALLn := HALL.out
        unfold ptV at HALLn
        rw [HN.out] at HALLn
        have HALL2 := Lib.hid HALLn
        clear HALLn HALL
        go_wp2_with (first | (refine wpList_load_rowG (by first | rfl | kernel_rfl | (simp [Region.wanted, yielded])) 26 (.tmp 1) (by rfl) (w.heap.size) (by rfl) 26 _ (0, 0) _ HPn.out Try.underlying26 (by rfl) (by kernel_rfl) ?_) | fail)
        refine HALL2.out.mono ?_
        rintro r w5 ⟨rfl, b⟩
        have HB5 := Lib.hid (bel2 HB.out b)
        clear b HALL2
        generalize all p = S at *
        go_wp2
        go_ret
        exact ⟨ret_bool HF.out.symm, HB5.out⟩
end Go.Proofs.Ytcfehddnccdejaa
