/- How many replicas a load wants, as plain mathematics. -/
import Derived.Test.YtpgjjdpblilljaaFxA
namespace Go.Proofs.Ytpgjjdpblilljaa
set_option linter.unusedSimpArgs false
set_option linter.unusedVariables false
namespace Tk
open Fx

def lim (l m n : Int) : Int := max l (min n m)
def wt (t c u : Int) : Int := min (up (div (mul (1000 * lim 0 1000 c) (lim 0 1000000000 u)) (lim 1 1000000000 t))) 1000
/-- The same, of what is within its bounds. -/
def wn (t c u : Int) : Int := min ((min (c * u) 1000000000 * 1000 / t + 999) / 1000) 1000

theorem lim_le (l m n : Int) (h : l ≤ m) : l ≤ lim l m n ∧ lim l m n ≤ m := by unfold lim; omega
theorem lim_id {l m n : Int} (h1 : l ≤ n) (h2 : n ≤ m) : lim l m n = n := by unfold lim; omega
theorem lim_mono {l m a b : Int} (h : a ≤ b) : lim l m a ≤ lim l m b := by unfold lim; omega

theorem wn_is {t c u : Int} (ht : 1 ≤ t) (ht2 : t ≤ 1000000000) (hc : 0 ≤ c) (hc2 : c ≤ 1000) (hu : 0 ≤ u) (hu2 : u ≤ 1000000000) :
    min (up (div (mul (1000 * c) u) t)) 1000 = wn t c u := by
  have hp : 0 ≤ c * u := Int.mul_nonneg hc hu
  have hm : mul (1000 * c) u = min (c * u) 1000000000 := by
    rw [mul_cut, sat_id (show -1000000000 ≤ 1000 * c by omega) (by omega), sat_id (show -1000000000 ≤ u by omega) hu2, Int.mul_assoc]
    have : cut (1000 * (c * u)) = c * u := by rw [Int.mul_comm]; exact cut_thousand _
    rw [this]
    unfold sat
    split <;> (try split) <;> omega
  unfold wn
  rw [hm]
  have hl0 : 0 ≤ min (c * u) 1000000000 := by omega
  have hl1 : min (c * u) 1000000000 ≤ 1000000000 := by omega
  generalize min (c * u) 1000000000 = l at *
  have hd : div l t = sat (l * 1000 / t) := by
    unfold div by2
    rw [sat_id (show -1000000000 ≤ l by omega) hl1, sat_id (show -1000000000 ≤ t by omega) ht2]
    unfold bys
    rw [if_neg (show ¬ l < 0 by omega)]
    dsimp only
    rw [if_neg (show ¬ t < 0 by omega)]
    unfold divS
    rw [if_neg (show ¬ t = 0 by omega)]
  rw [hd]
  have hq : 0 ≤ l * 1000 / t := Int.ediv_nonneg (by omega) (by omega)
  generalize l * 1000 / t = q at *
  unfold up
  rw [sat_sat]
  unfold sat
  split <;> (try split) <;> omega
theorem wt_is (t c u : Int) : wt t c u = wn (lim 1 1000000000 t) (lim 0 1000 c) (lim 0 1000000000 u) := by
  have h1 := lim_le 1 1000000000 t (by omega)
  have h2 := lim_le 0 1000 c (by omega)
  have h3 := lim_le 0 1000000000 u (by omega)
  exact wn_is h1.1 h1.2 h2.1 h2.2 h3.1 h3.2
theorem wt_wn {t c u : Int} (ht : 1 ≤ t) (ht2 : t ≤ 1000000000) (hc : 0 ≤ c) (hc2 : c ≤ 1000) (hu : 0 ≤ u) (hu2 : u ≤ 1000000000) : wt t c u = wn t c u := by
  rw [wt_is, lim_id ht ht2, lim_id hc hc2, lim_id hu hu2]
theorem up_bounds (x : Int) : -1000000 ≤ up x ∧ up x ≤ 1000000 := up_le x
theorem wn_load {t c u c' u' : Int} (ht : 1 ≤ t) (h : c * u ≤ c' * u') : wn t c u ≤ wn t c' u' := by
  unfold wn
  have : min (c * u) 1000000000 * 1000 / t ≤ min (c' * u') 1000000000 * 1000 / t := Int.ediv_le_ediv (by omega) (by omega)
  generalize min (c * u) 1000000000 * 1000 / t = q at *
  generalize min (c' * u') 1000000000 * 1000 / t = q' at *
  omega
theorem wn_to {t t' c u : Int} (ht : 1 ≤ t) (h : t ≤ t') (hp : 0 ≤ c * u) : wn t' c u ≤ wn t c u := by
  unfold wn
  have : min (c * u) 1000000000 * 1000 / t' ≤ min (c * u) 1000000000 * 1000 / t := by
    have hl : 0 ≤ min (c * u) 1000000000 * 1000 := by omega
    generalize min (c * u) 1000000000 * 1000 = l at *
    have q0 : 0 ≤ l / t' := Int.ediv_nonneg hl (by omega)
    refine (Int.le_ediv_iff_mul_le (by omega)).2 ?_
    have h1 : l / t' * t' ≤ l := Int.ediv_mul_le l (by omega)
    have h2 : l / t' * t ≤ l / t' * t' := Int.mul_le_mul_of_nonneg_left h q0
    omega
  generalize min (c * u) 1000000000 * 1000 / t = q at *
  generalize min (c * u) 1000000000 * 1000 / t' = q' at *
  omega
theorem wn_le {t c u : Int} (ht : 1 ≤ t) (hp : 0 ≤ c * u) : 0 ≤ wn t c u ∧ wn t c u ≤ 1000 := by
  unfold wn
  have : 0 ≤ min (c * u) 1000000000 * 1000 / t := Int.ediv_nonneg (by omega) (by omega)
  generalize min (c * u) 1000000000 * 1000 / t = q at *
  omega
theorem wt_le (t c u : Int) : 0 ≤ wt t c u ∧ wt t c u ≤ 1000 := by
  rw [wt_is]
  exact wn_le (lim_le 1 1000000000 t (by omega)).1 (Int.mul_nonneg (lim_le 0 1000 c (by omega)).1 (lim_le 0 1000000000 u (by omega)).1)
theorem wt_grows {t c u t' c' u' : Int} (ht : t' ≤ t) (hc : c ≤ c') (hu : u ≤ u') : wt t c u ≤ wt t' c' u' := by
  rw [wt_is, wt_is]
  have h1 := lim_le 1 1000000000 t (by omega)
  have h1' := lim_le 1 1000000000 t' (by omega)
  have h2 := lim_le 0 1000 c (by omega)
  have h3 := lim_le 0 1000000000 u (by omega)
  have h3' := lim_le 0 1000000000 u' (by omega)
  have m1 := lim_mono (l := 1) (m := 1000000000) ht
  have m2 := lim_mono (l := 0) (m := 1000) hc
  have m3 := lim_mono (l := 0) (m := 1000000000) hu
  refine Int.le_trans (wn_load h1.1 (Int.mul_le_mul m2 m3 h3.1 (by omega))) ?_
  exact wn_to h1'.1 m1 (Int.mul_nonneg (by omega) h3'.1)
/-- At rest. -/
theorem wt_rest {t c : Int} (ht : 1 ≤ t) (ht2 : t ≤ 10000) (hc : 0 ≤ c) (hc2 : c ≤ 1000) : wt t c t = c := by
  rw [wt_wn ht (by omega) hc hc2 (by omega) (by omega)]
  unfold wn
  have hp : c * t ≤ 1000 * 10000 := Int.mul_le_mul hc2 ht2 (by omega) (by omega)
  rw [show min (c * t) 1000000000 = c * t from by omega, show c * t * 1000 = c * 1000 * t from by rw [Int.mul_assoc, Int.mul_comm t, Int.mul_assoc], Int.mul_ediv_cancel _ (by omega)]
  omega
/-- As many as are wanted have enough, one fewer would not. -/
theorem wt_enough {t c u : Int} (ht : 1 ≤ t) (ht2 : t ≤ 10000) (hc : 0 ≤ c) (hc2 : c ≤ 1000) (hu : 0 ≤ u) (hu2 : u ≤ 10000) (hn : wt t c u < 1000) :
    1000 * (c * u) - t < 1000 * (wt t c u * t) ∧ (wt t c u ≠ 0 → (wt t c u - 1) * t < c * u) := by
  rw [wt_wn ht (by omega) hc hc2 hu (by omega)] at hn ⊢
  have hp0 : 0 ≤ c * u := Int.mul_nonneg hc hu
  have hp : c * u ≤ 1000 * 10000 := Int.mul_le_mul hc2 hu2 (by omega) (by omega)
  unfold wn at *
  rw [show min (c * u) 1000000000 = c * u from by omega] at *
  generalize c * u = p at *
  have h1 := Int.ediv_mul_le (p * 1000) (b := t) (by omega)
  have h2 := Int.lt_ediv_add_one_mul_self (p * 1000) (b := t) (by omega)
  have q0 : 0 ≤ p * 1000 / t := Int.ediv_nonneg (by omega) (by omega)
  generalize p * 1000 / t = q at *
  obtain ⟨n, hN⟩ : ∃ n, n = (q + 999) / 1000 := ⟨_, rfl⟩
  rw [← hN, show min n 1000 = n from by omega]
  have e1 : q ≤ 1000 * n := by omega
  have m1 : q * t ≤ 1000 * n * t := Int.mul_le_mul_of_nonneg_right e1 (by omega)
  rw [Int.add_mul] at h2
  rw [Int.mul_assoc] at m1
  refine ⟨by omega, fun h0 => ?_⟩
  have e2 : 1000 * (n - 1) ≤ q - 1 := by omega
  have m2 : 1000 * (n - 1) * t ≤ (q - 1) * t := Int.mul_le_mul_of_nonneg_right e2 (by omega)
  rw [Int.sub_mul, Int.mul_assoc] at m2
  omega
/-- None are wanted, of a load that is small. -/
theorem wt_none {t c u : Int} (hc : 0 < c) (hu : 0 < u) : wt t c u = 0 ↔ 1000 * min c 1000 * min u 1000000000 < min (max t 1) 1000000000 := by
  rw [wt_is]
  have h1 := lim_le 1 1000000000 t (by omega)
  rw [show lim 0 1000 c = min c 1000 from by unfold lim; omega, show lim 0 1000000000 u = min u 1000000000 from by unfold lim; omega, show min (max t 1) 1000000000 = lim 1 1000000000 t from by unfold lim; omega, Int.mul_assoc]
  generalize lim 1 1000000000 t = T at *
  unfold wn
  have hp : 0 ≤ min c 1000 * min u 1000000000 := Int.mul_nonneg (by omega) (by omega)
  generalize min c 1000 * min u 1000000000 = p at *
  have hq : 0 ≤ min p 1000000000 * 1000 / T := Int.ediv_nonneg (by omega) (by omega)
  have e : min p 1000000000 * 1000 / T = 0 ↔ 1000 * p < T := by
    constructor
    · intro h
      have := Int.lt_ediv_add_one_mul_self (min p 1000000000 * 1000) (b := T) (by omega)
      rw [h] at this
      omega
    · intro h
      exact Int.ediv_eq_zero_of_lt (by omega) (by omega)
  rw [← e]
  generalize min p 1000000000 * 1000 / T = q at *
  omega
theorem wt_zero {t c u : Int} (h : c ≤ 0 ∨ u ≤ 0) : wt t c u = 0 := by
  rw [wt_is]
  have hz : lim 0 1000 c * lim 0 1000000000 u = 0 := by
    rcases h with h | h
    · rw [show lim 0 1000 c = 0 from by unfold lim; omega]; omega
    · rw [show lim 0 1000000000 u = 0 from by unfold lim; omega]; omega
  unfold wn
  rw [hz]
  rw [show min (0 : Int) 1000000000 * 1000 = 0 from by decide, Int.zero_ediv]
  decide
/-- Once more. -/
theorem wt_twice {t c u : Int} (ht : 1 ≤ t) (ht2 : t ≤ 10000) (hc : 0 ≤ c) (hc2 : c ≤ 1000) (hu : 0 ≤ u) (hu2 : u ≤ 10000) (h0 : wt t c u ≠ 0) (hn : wt t c u < 1000) :
    wt t (wt t c u) (c * u / wt t c u) ≤ wt t c u := by
  have hb := wt_le t c u
  have hp0 : 0 ≤ c * u := Int.mul_nonneg hc hu
  have hp : c * u ≤ 1000 * 10000 := Int.mul_le_mul hc2 hu2 (by omega) (by omega)
  have e := wt_wn (t := t) (c := c) (u := u) ht (by omega) hc hc2 hu (by omega)
  generalize wt t c u = n at *
  have k0 : 0 ≤ c * u / n := Int.ediv_nonneg hp0 (by omega)
  have k1 : c * u / n ≤ c * u := Int.ediv_le_self _ hp0
  rw [wt_wn ht (by omega) hb.1 hb.2 k0 (by omega), e]
  have := Int.mul_ediv_self_le (x := c * u) (k := n) (by omega)
  rw [← e]
  exact Int.le_trans (wn_load ht this) (by rw [e]; exact Int.le_refl _)
end Tk
end Go.Proofs.Ytpgjjdpblilljaa
