/- Contracts of track, the program's and the document's. -/
import Derived.Test.YtpgjjdpblilljaaTkA
import Derived.Test.YtpgjjdpblilljaaFxM
import Derived.Test.YtpgjjdpblilljaaFxT
namespace Go.Proofs.Ytpgjjdpblilljaa
set_option linter.unusedSimpArgs false
set_option linter.unusedVariables false
open Go.RowKit
open Fx Tk

theorem tkinto64_any (l m n : Int) (w : World) :
    Calls Try.prog 46 #[.int .i64 l, .int .i64 m, .int .i64 n] w fun e w' => e = .returned (.int .i64 (lim l m n)) ∧ w' = w := by
  have h : Hid (lim l m n = max l (min n m)) := rfl
  go_enter Try.func46, Try.ntmps46
  go_wp2
  go_ret
  exact ⟨by rw [h.out]; rfl, rfl⟩
theorem tkinto_any (l m n : Int) (w : World) :
    Calls Try.prog 47 #[.int .i64 l, .int .i64 m, .int .i64 n] w fun e w' => e = .returned (.int .i64 (lim l m n)) ∧ w' = w := by
  have h : Hid (lim l m n = max l (min n m)) := rfl
  go_enter Try.func47, Try.ntmps47
  go_wp2
  go_ret
  exact ⟨by rw [h.out]; rfl, rfl⟩
set_option maxHeartbeats 1600000 in
theorem tkwant_any (t c u : Int) (w : World) :
    Calls Try.prog 37 #[.int .i64 t, .int .i64 c, .int .i64 u] w fun e w' => e = .returned (.int .i64 (wt t c u)) ∧ Below w.heap.size w w' := by
  have hc := lim_le 0 1000 c (by omega)
  have hS : Hid (wt t c u = min (up (div (mul (1000 * lim 0 1000 c) (lim 0 1000000000 u)) (lim 1 1000000000 t))) 1000) := rfl
  go_enter Try.func37, Try.ntmps37
  go_wp2_with fail
  refine (tkinto64_any _ _ t _).mono ?_
  rintro e w9 ⟨rfl, rfl⟩
  go_wp2_with fail
  refine (tkinto_any _ _ c _).mono ?_
  rintro e w9 ⟨rfl, rfl⟩
  go_wp2_with fail
  refine (tkinto64_any _ _ u _).mono ?_
  rintro e w9 ⟨rfl, rfl⟩
  generalize lim 1 1000000000 t = T at *
  generalize lim 0 1000 c = C at *
  generalize lim 0 1000000000 u = U at *
  have hw : IntKind.i64.wrap (1000 * C) = 1000 * C := by rw [IntKind.wrap_i64]; omega
  clear hc
  go_wp2_with fail
  refine (mul_any (1000 * C) U _).mono ?_
  rintro e w1 ⟨rfl, b1⟩
  have B1 := Lib.hid b1
  clear b1
  go_wp2_with fail
  refine (div_any (mul (1000 * C) U) T _).mono ?_
  rintro e w2 ⟨rfl, b2⟩
  have B2 := Lib.hid (B1.out.trans (b2.mono B1.out.size))
  clear B1 b2
  go_wp2_with fail
  refine (up_any (div (mul (1000 * C) U) T) _).mono ?_
  rintro e w9 ⟨rfl, rfl⟩
  have hu := up_bounds (div (mul (1000 * C) U) T)
  generalize up (div (mul (1000 * C) U) T) = q at *
  obtain ⟨hu1, hu2⟩ := hu
  have hw2 : IntKind.i64.wrap (min q 1000) = min q 1000 := by rw [IntKind.wrap_i64]; omega
  go_wp2
  go_ret
  exact ⟨by rw [hS.out]; first | rfl | simp, B2.out⟩
set_option maxHeartbeats 1600000 in
theorem tkrwant_any (t c u : Int) (w : World) :
    Calls Try.prog 15 #[.int .i64 t, .int .i64 c, .int .i64 u] w fun e w' => e = .returned (.int .i64 (wt t c u)) ∧ w' = w := by
  have hc := lim_le 0 1000 c (by omega)
  have h0 := wt_le t c u
  have hS : Hid (wt t c u = min (up (div (mul (1000 * lim 0 1000 c) (lim 0 1000000000 u)) (lim 1 1000000000 t))) 1000) := rfl
  have e1 : min (max c 0) 1000 = lim 0 1000 c := by unfold lim; omega
  have e2 : min (max u 0) 1000000000 = lim 0 1000000000 u := by unfold lim; omega
  have e3 : min (max t 1) 1000000000 = lim 1 1000000000 t := by unfold lim; omega
  obtain ⟨hc1, hc2⟩ := hc
  rw [hS.out] at h0
  generalize lim 1 1000000000 t = T at *
  generalize lim 0 1000 c = C at *
  generalize lim 0 1000000000 u = U at *
  have hw : IntKind.i64.wrap (1000 * C) = 1000 * C := by rw [IntKind.wrap_i64]; omega
  have hw1 : IntKind.i64.wrap C = C := by rw [IntKind.wrap_i64]; omega
  have h0' := Lib.hid h0
  clear h0
  go_enter Try.func15, Try.ntmps15
  go_wp2_with fail
  refine (rmul_any (1000 * C) U _).mono ?_
  rintro e w9 ⟨rfl, rfl⟩
  go_wp2_with fail
  refine (rdiv_any (mul (1000 * C) U) T _).mono ?_
  rintro e w9 ⟨rfl, rfl⟩
  go_wp2_with fail
  refine (rup_any (div (mul (1000 * C) U) T) _).mono ?_
  rintro e w9 ⟨rfl, rfl⟩
  have hu := h0'.out
  clear h0'
  generalize up (div (mul (1000 * C) U) T) = q at *
  obtain ⟨hu1, hu2⟩ := hu
  have e4 : min (max q 0) 1000 = min q 1000 := by omega
  have hw2 : IntKind.i64.wrap (min q 1000) = min q 1000 := by rw [IntKind.wrap_i64]; omega
  go_wp2
  go_ret
  exact ⟨by rw [hS.out]; first | rfl | simp, rfl⟩
end Go.Proofs.Ytpgjjdpblilljaa
