/- By an error, its sum, and how it changes, as plain mathematics. -/
import Derived.Test.YtpgjjdpblilljaaFxA
namespace Go.Proofs.Ytpgjjdpblilljaa
set_option linter.unusedSimpArgs false
set_option linter.unusedVariables false
namespace Pd
open Fx

def bnd (n : Int) : Int := max (-1000) (min n 1000)
def chg (has : Bool) (e prev : Int) : Int := if has then sub e prev else 0
def wnt (kp ki kd e s c : Int) : Int := bnd (near (add (add (mul kp e) (mul ki s)) (mul kd c)))

theorem bnd_le (n : Int) : -1000 ≤ bnd n ∧ bnd n ≤ 1000 := by unfold bnd; omega
theorem bnd_neg (n : Int) : bnd (-n) = -bnd n := by unfold bnd; omega
theorem wnt_le (kp ki kd e s c : Int) : -1000 ≤ wnt kp ki kd e s c ∧ wnt kp ki kd e s c ≤ 1000 := bnd_le _
theorem add_zero_mul (a b : Int) : add 0 (mul a b) = mul a b := by
  unfold add
  rw [sat_zero, Int.zero_add, sat_sat, sat_id (mul_le a b).1 (mul_le a b).2]
theorem mul_zero_left (a : Int) : mul 0 a = 0 := by rw [mul_cut, sat_zero, Int.zero_mul]; decide
theorem mul_zero_right (a : Int) : mul a 0 = 0 := by rw [mul_comm, mul_zero_left]
theorem mul_neg_right (a b : Int) : mul a (-b) = -mul a b := by rw [mul_comm, mul_neg, mul_comm]
theorem add_neg (a b : Int) : add (-a) (-b) = -add a b := by
  unfold add
  rw [sat_neg, sat_neg, show -sat a + -sat b = -(sat a + sat b) by omega, sat_neg]
theorem sub_neg (a b : Int) : sub (-a) (-b) = -sub a b := by
  unfold sub
  rw [sat_neg, sat_neg, show -sat a - -sat b = -(sat a - sat b) by omega, sat_neg]
theorem add_zero_right {a : Int} (h : -1000000000 ≤ a) (h2 : a ≤ 1000000000) : add a 0 = a := by
  unfold add; rw [sat_zero, Int.add_zero, sat_sat, sat_id h h2]
theorem add_zero_left {a : Int} (h : -1000000000 ≤ a) (h2 : a ≤ 1000000000) : add 0 a = a := by
  unfold add; rw [sat_zero, Int.zero_add, sat_sat, sat_id h h2]
theorem sub_self_ (a : Int) : sub a a = 0 := by unfold sub; rw [Int.sub_self]; exact sat_zero
theorem near_zero : near 0 = 0 := by decide
theorem wnt_p (k e s c : Int) : wnt k 0 0 e s c = bnd (near (mul k e)) := by
  unfold wnt
  have h := mul_le k e
  rw [mul_zero_left, mul_zero_left, add_zero_right h.1 h.2, add_zero_right h.1 h.2]
theorem wnt_i (k e s c : Int) : wnt 0 k 0 e s c = bnd (near (mul k s)) := by
  unfold wnt
  have h := mul_le k s
  rw [mul_zero_left, mul_zero_left, add_zero_left h.1 h.2, add_zero_right h.1 h.2]
theorem wnt_d (k e s c : Int) : wnt 0 0 k e s c = bnd (near (mul k c)) := by
  unfold wnt
  have h := mul_le k c
  rw [mul_zero_left, mul_zero_left, show add 0 0 = 0 from by decide, add_zero_left h.1 h.2]
theorem wnt_none (e s c : Int) : wnt 0 0 0 e s c = 0 := by
  rw [wnt_p, mul_zero_left]; decide
theorem wnt_rest (kp ki kd : Int) : wnt kp ki kd 0 0 0 = 0 := by
  unfold wnt
  rw [mul_zero_right, mul_zero_right, mul_zero_right]; decide
theorem wnt_still (kd e s : Int) : wnt 0 0 kd e s 0 = 0 := by rw [wnt_d, mul_zero_right]; decide
theorem wnt_neg (kp ki kd e s c : Int) : wnt kp ki kd (-e) (-s) (-c) = -wnt kp ki kd e s c := by
  unfold wnt
  rw [mul_neg_right, mul_neg_right, mul_neg_right, add_neg, add_neg, near_neg, bnd_neg]
theorem chg_neg (h : Bool) (e p : Int) : chg h (-e) (-p) = -chg h e p := by
  unfold chg
  cases h
  · rfl
  · exact sub_neg e p
end Pd
end Go.Proofs.Ytpgjjdpblilljaa
