/- The band of a load, and how many are wanted by it, as plain mathematics. -/
import Derived.Test.YtpgjjdpblilljaaEvA
namespace Go.Proofs.Ytpgjjdpblilljaa
set_option linter.unusedSimpArgs false
set_option linter.unusedVariables false
namespace Stp
open Evn

def ab (l : List (Int × Int)) (i : Nat) : Int := (l.getD i (0, 0)).1
def de (l : List (Int × Int)) (i : Nat) : Int := (l.getD i (0, 0)).2
/-- The last one of the first n whose Above is not above u. -/
def fndTo (l : List (Int × Int)) (u : Int) : Nat → Int
  | 0 => -1
  | n + 1 => if ab l n ≤ u then (n : Int) else fndTo l u n
def fnd (l : List (Int × Int)) (u : Int) : Int := fndTo l u l.length
def bnd (l m n : Int) : Int := max l (min n m)
def wnt (l : List (Int × Int)) (c u : Int) : Int := if 0 ≤ fnd l u then bnd 0 1000 (bnd 0 1000 c + de l (fnd l u).toNat) else bnd 0 1000 c
def Up (l : List (Int × Int)) : Prop := ∀ i j, i < j → j < l.length → ab l i < ab l j

theorem fndTo_le (l : List (Int × Int)) (u : Int) : ∀ n, -1 ≤ fndTo l u n ∧ fndTo l u n < (n : Int)
  | 0 => by simp [fndTo]
  | n + 1 => by
    have h := fndTo_le l u n
    unfold fndTo
    split <;> omega
theorem fnd_le (l : List (Int × Int)) (u : Int) : -1 ≤ fnd l u ∧ fnd l u < (l.length : Int) := fndTo_le l u _
theorem fndTo_iff {l : List (Int × Int)} (h : Up l) (u : Int) : ∀ n, n ≤ l.length → ∀ i, i < n → (ab l i ≤ u ↔ (i : Int) ≤ fndTo l u n)
  | 0, _, i, hi => absurd hi (by omega)
  | n + 1, hn, i, hi => by
    have hl := fndTo_le l u n
    unfold fndTo
    by_cases hu : ab l n ≤ u
    · rw [if_pos hu]
      rcases Nat.lt_or_ge i n with h1 | h1
      · have := h i n h1 (by omega)
        omega
      · have : i = n := by omega
        subst this
        omega
    · rw [if_neg hu]
      rcases Nat.lt_or_ge i n with h1 | h1
      · exact fndTo_iff h u n (by omega) i h1
      · have : i = n := by omega
        subst this
        constructor
        · intro h2; exact absurd h2 hu
        · intro h2; omega
theorem fnd_iff {l : List (Int × Int)} (h : Up l) (u : Int) {i : Nat} (hi : i < l.length) : ab l i ≤ u ↔ (i : Int) ≤ fnd l u := fndTo_iff h u _ (Nat.le_refl _) i hi
/-- Whoever parts the bands so has found it. -/
theorem fnd_is {l : List (Int × Int)} (h : Up l) {u a : Int} (h1 : -1 ≤ a) (h2 : a < (l.length : Int)) (ha : ∀ i, i < l.length → (ab l i ≤ u ↔ (i : Int) ≤ a)) : a = fnd l u := by
  have hf := fnd_le l u
  rcases Int.lt_trichotomy a (fnd l u) with h3 | h3 | h3
  · have k1 := ha (fnd l u).toNat (by omega)
    have k2 := fnd_iff h u (i := (fnd l u).toNat) (by omega)
    omega
  · exact h3
  · have k1 := ha a.toNat (by omega)
    have k2 := fnd_iff h u (i := a.toNat) (by omega)
    omega
theorem fnd_mono {l : List (Int × Int)} (h : Up l) {u v : Int} (huv : u ≤ v) : fnd l u ≤ fnd l v := by
  have hf := fnd_le l u
  by_cases h0 : 0 ≤ fnd l u
  · have k1 := fnd_iff h u (i := (fnd l u).toNat) (by omega)
    have k2 := fnd_iff h v (i := (fnd l u).toNat) (by omega)
    omega
  · have := (fnd_le l v).1
    omega
theorem fnd_at {l : List (Int × Int)} (h : Up l) {k : Nat} (hk : k < l.length) : fnd l (ab l k) = (k : Int) := by
  refine (fnd_is h (by omega) (by omega) (fun i hi => ?_)).symm
  constructor
  · intro h1
    rcases Nat.lt_or_ge k i with h2 | h2
    · have := h k i h2 hi; omega
    · omega
  · intro h1
    rcases Nat.lt_or_ge i k with h2 | h2
    · have := h i k h2 hk; omega
    · have : i = k := by omega
      subst this; exact Int.le_refl _
theorem fnd_below {l : List (Int × Int)} (h : Up l) {k : Nat} (hk : k < l.length) : fnd l (ab l k - 1) = (k : Int) - 1 := by
  refine (fnd_is h (by omega) (by omega) (fun i hi => ?_)).symm
  constructor
  · intro h1
    rcases Nat.lt_or_ge i k with h2 | h2
    · omega
    · rcases Nat.lt_or_ge k i with h3 | h3
      · have := h k i h3 hi; omega
      · have : i = k := by omega
        subst this; omega
  · intro h1
    have := h i k (by omega) hk
    omega
theorem bandsR_ge : ∀ (l : List (Int × Int)) (m : Int), bandsR m l = true → ∀ i, i < l.length → m ≤ ab l i ∧ ab l i ≤ 1000000000 ∧ -1000 ≤ de l i ∧ de l i ≤ 1000
  | [], _, _, i, hi => absurd hi (by simp)
  | x :: r, m, h, i, hi => by
    simp only [bandsR, Bool.and_eq_true, decide_eq_true_eq] at h
    cases i with
    | zero => exact ⟨h.1.1, h.1.2, h.2.1.1, h.2.1.2⟩
    | succ i =>
      have k := bandsR_ge r (x.1 + 1) h.2.2 i (by simpa using hi)
      have e1 : ab (x :: r) (i + 1) = ab r i := rfl
      have e2 : de (x :: r) (i + 1) = de r i := rfl
      rw [e1, e2]
      omega
theorem bandsR_Up : ∀ (l : List (Int × Int)) (m : Int), bandsR m l = true → Up l
  | [], _, _ => fun i j _ hj => absurd hj (by simp)
  | x :: r, m, h => fun i j hij hj => by
    simp only [bandsR, Bool.and_eq_true, decide_eq_true_eq] at h
    cases j with
    | zero => omega
    | succ j =>
      have e1 : ab (x :: r) (j + 1) = ab r j := rfl
      rw [e1]
      cases i with
      | zero =>
        have k := bandsR_ge r (x.1 + 1) h.2.2 j (by simpa using hj)
        show x.1 < _
        omega
      | succ i =>
        have e2 : ab (x :: r) (i + 1) = ab r i := rfl
        rw [e2]
        exact bandsR_Up r (x.1 + 1) h.2.2 i j (by omega) (by simpa using hj)
theorem bnd_le (l m n : Int) (h : l ≤ m) : l ≤ bnd l m n ∧ bnd l m n ≤ m := by unfold bnd; omega
theorem bnd_mono {l m a b : Int} (h : a ≤ b) : bnd l m a ≤ bnd l m b := by unfold bnd; omega
theorem bnd_id {l m n : Int} (h1 : l ≤ n) (h2 : n ≤ m) : bnd l m n = n := by unfold bnd; omega
theorem wnt_le (l : List (Int × Int)) (c u : Int) : 0 ≤ wnt l c u ∧ wnt l c u ≤ 1000 := by
  unfold wnt
  split
  · exact bnd_le _ _ _ (by omega)
  · exact bnd_le _ _ _ (by omega)
theorem wnt_cur {l : List (Int × Int)} {c d u : Int} (h : c ≤ d) : wnt l c u ≤ wnt l d u := by
  have := bnd_mono (l := 0) (m := 1000) h
  unfold wnt
  split
  · exact bnd_mono (by omega)
  · exact this
/-- Deltas that rise, the first not below 0. -/
theorem wnt_load {l : List (Int × Int)} (h : Up l) (h0 : ∀ i, i < l.length → 0 ≤ de l i) (hd : ∀ i j, i ≤ j → j < l.length → de l i ≤ de l j) {c u v : Int} (huv : u ≤ v) : wnt l c u ≤ wnt l c v := by
  have hm := fnd_mono h huv
  have hu := fnd_le l u
  have hv := fnd_le l v
  have hb := bnd_le 0 1000 c (by omega)
  unfold wnt
  by_cases k1 : 0 ≤ fnd l u
  · rw [if_pos k1, if_pos (by omega)]
    exact bnd_mono (by have := hd (fnd l u).toNat (fnd l v).toNat (by omega) (by omega); omega)
  · rw [if_neg k1]
    split
    · have := h0 (fnd l v).toNat (by omega)
      have e : bnd 0 1000 c = bnd 0 1000 (bnd 0 1000 c) := (bnd_id hb.1 hb.2).symm
      rw [e]
      refine bnd_mono ?_
      rw [bnd_id hb.1 hb.2]
      omega
    · exact Int.le_refl _
end Stp
end Go.Proofs.Ytpgjjdpblilljaa
