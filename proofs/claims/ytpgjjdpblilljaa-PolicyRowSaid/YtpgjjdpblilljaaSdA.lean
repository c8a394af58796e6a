/- Where in a period a time is, and what is wanted then, as plain mathematics. -/
import Derived.Test.YtpgjjdpblilljaaStA
namespace Go.Proofs.Ytpgjjdpblilljaa
set_option linter.unusedSimpArgs false
namespace Sdl
open Evn Stp
set_option linter.unusedVariables false

def tod (p t : Int) : Int := t % p
theorem tod_in {p : Int} (hp : 1 ≤ p) (t : Int) : 0 ≤ tod p t ∧ tod p t < p := ⟨Int.emod_nonneg _ (by omega), Int.emod_lt_of_pos _ (by omega)⟩
theorem tod_is {p t n q : Int} (h1 : 0 ≤ n) (h2 : n < p) (h : n + p * q = t) : tod p t = n := ((Int.ediv_emod_unique (by omega)).2 ⟨h, h1, h2⟩).2
theorem tod_eq (p t : Int) : tod p t + p * (t / p) = t := Int.emod_add_mul_ediv t p
theorem tod_id {p t : Int} (h1 : 0 ≤ t) (h2 : t < p) : tod p t = t := Int.emod_eq_of_lt h1 h2
theorem tod_tod (p t : Int) : tod p (tod p t) = tod p t := Int.emod_emod_of_dvd _ (Int.dvd_refl _)
theorem tod_tmod {p : Int} (hp : 1 ≤ p) (t : Int) : -p < t.tmod p ∧ t.tmod p < p ∧ (0 ≤ t.tmod p → tod p t = t.tmod p) ∧ (t.tmod p < 0 → tod p t = t.tmod p + p) := by
  have h1 := Int.lt_tmod_of_pos t (show 0 < p by omega)
  have h2 := Int.tmod_lt_of_pos t (show 0 < p by omega)
  have h3 := Int.mul_tdiv_add_tmod t p
  refine ⟨h1, h2, fun h => ?_, fun h => ?_⟩
  · exact tod_is (q := t.tdiv p) h h2 (by rw [Int.add_comm]; exact h3)
  · refine tod_is (q := t.tdiv p - 1) (by omega) (by omega) ?_
    rw [Int.mul_sub, Int.mul_one]
    omega
theorem tod_later (p t k : Int) : tod p (t + k * p) = tod p t := Int.add_mul_emod_self_right t k p
theorem tod_sub (p t : Int) : (t - tod p t).tmod p = 0 := by
  have e : t - tod p t = p * (t / p) := by have := tod_eq p t; omega
  rw [e]
  exact Int.mul_tmod_right _ _
theorem tod_next {p : Int} (hp : 1 ≤ p) (t : Int) : tod p (t + 1) = tod p t + 1 ∨ (tod p t = p - 1 ∧ tod p (t + 1) = 0) := by
  have h := tod_in hp t
  have e := tod_eq p t
  by_cases hx : tod p t = p - 1
  · refine .inr ⟨hx, tod_is (q := t / p + 1) (by omega) (by omega) ?_⟩
    rw [Int.mul_add, Int.mul_one]
    omega
  · exact .inl (tod_is (q := t / p) (by omega) (by omega) (by omega))

/-- The N of the last slot that is not above u; 0 of none. -/
def swnTo (l : List (Int × Int)) (u : Int) (k : Nat) : Int := if 0 ≤ fndTo l u k then de l (fndTo l u k).toNat else 0
def swn (l : List (Int × Int)) (u : Int) : Int := swnTo l u l.length
theorem swnTo_zero (l : List (Int × Int)) (u : Int) : swnTo l u 0 = 0 := rfl
theorem swnTo_succ (l : List (Int × Int)) (u : Int) (k : Nat) : swnTo l u (k + 1) = if ab l k ≤ u then de l k else swnTo l u k := by
  unfold swnTo
  rw [fndTo]
  by_cases h : ab l k ≤ u
  · rw [if_pos h, if_pos h, if_pos (by omega)]
    rfl
  · rw [if_neg h, if_neg h]
theorem fndTo_last (l : List (Int × Int)) (u : Int) (k : Nat) (h : ab l k ≤ u) : ∀ m, k < m → (∀ j, k < j → j < m → u < ab l j) → fndTo l u m = (k : Int)
  | 0, hm, _ => absurd hm (by omega)
  | m + 1, hm, hj => by
    rw [fndTo]
    by_cases e : k = m
    · subst e; rw [if_pos h]
    · have := hj m (by omega) (by omega)
      rw [if_neg (by omega)]
      exact fndTo_last l u k h m (by omega) (fun j h1 h2 => hj j h1 (by omega))
theorem fndTo_no (l : List (Int × Int)) (u : Int) : ∀ m, (∀ j, j < m → u < ab l j) → fndTo l u m = -1
  | 0, _ => rfl
  | m + 1, h => by
    rw [fndTo]
    have := h m (by omega)
    rw [if_neg (by omega)]
    exact fndTo_no l u m (fun j hj => h j (by omega))
theorem swn_last {l : List (Int × Int)} {u : Int} {k : Nat} (hk : k < l.length) (h : ab l k ≤ u) (hj : ∀ j, k < j → j < l.length → u < ab l j) : swn l u = de l k := by
  unfold swn swnTo
  rw [fndTo_last l u k h _ hk hj, if_pos (by omega)]
  rfl
theorem swn_no {l : List (Int × Int)} {u : Int} (h : ∀ j, j < l.length → u < ab l j) : swn l u = 0 := by
  unfold swn swnTo
  rw [fndTo_no l u _ h]
  rfl
/-- From where a slot begins to where the next one does. -/
theorem swn_in {l : List (Int × Int)} (hu : Up l) {u : Int} {k : Nat} (hk : k < l.length) (h : ab l k ≤ u) (hn : k + 1 < l.length → u < ab l (k + 1)) : swn l u = de l k :=
  swn_last hk h (fun j h1 h2 => by
    have h3 := hn (by omega)
    rcases Nat.lt_or_ge (k + 1) j with h4 | h4
    · have := hu (k + 1) j h4 h2; omega
    · have : j = k + 1 := by omega
      subst this; exact h3)
/-- Of slots of which the first begins at once it is one of their numbers. -/
theorem swn_some {l : List (Int × Int)} {u : Int} (h0 : 0 < l.length) (h : ab l 0 ≤ u) : ∃ k, k < l.length ∧ swn l u = de l k := by
  have key : ∀ m, 0 < m → 0 ≤ fndTo l u m := by
    intro m
    induction m with
    | zero => intro h; omega
    | succ m ih =>
      intro _
      rw [fndTo]
      by_cases hx : ab l m ≤ u
      · rw [if_pos hx]; omega
      · rw [if_neg hx]
        rcases Nat.eq_zero_or_pos m with e | e
        · subst e; exact absurd h hx
        · exact ih e
  have h1 := key _ h0
  have h2 := fndTo_le l u l.length
  exact ⟨(fndTo l u l.length).toNat, by omega, by unfold swn swnTo; rw [if_pos h1]⟩
theorem ab_take (l : List (Int × Int)) (k i : Nat) (h : i < k) : ab (l.take k) i = ab l i := by
  unfold ab
  rw [List.getD_eq_getElem?_getD, List.getD_eq_getElem?_getD, List.getElem?_take_of_lt h]
theorem de_take (l : List (Int × Int)) (k i : Nat) (h : i < k) : de (l.take k) i = de l i := by
  unfold de
  rw [List.getD_eq_getElem?_getD, List.getD_eq_getElem?_getD, List.getElem?_take_of_lt h]
theorem fndTo_take (l : List (Int × Int)) (u : Int) (k : Nat) : ∀ m, m ≤ k → fndTo (l.take k) u m = fndTo l u m
  | 0, _ => rfl
  | m + 1, h => by rw [fndTo, fndTo, ab_take l k m (by omega), fndTo_take l u k m (by omega)]
theorem swn_take {l : List (Int × Int)} (u : Int) {k : Nat} (h : k ≤ l.length) : swn (l.take k) u = swnTo l u k := by
  have e : (l.take k).length = k := by rw [List.length_take]; omega
  have hb := fndTo_le l u k
  unfold swn swnTo
  rw [e, fndTo_take l u k k (Nat.le_refl _)]
  by_cases h0 : 0 ≤ fndTo l u k
  · rw [if_pos h0, if_pos h0, de_take l k _ (by omega)]
  · rw [if_neg h0, if_neg h0]
theorem swn_less {l : List (Int × Int)} {u : Int} {k : Nat} (h : l.length = k + 1) (hu : u < ab l k) : swn (l.take k) u = swn l u := by
  rw [swn_take u (by omega)]
  unfold swn
  rw [h, swnTo_succ, if_neg (by omega)]
theorem swn_one {l : List (Int × Int)} {u : Int} (h : 0 < l.length) (hu : ab l 0 ≤ u) : swn (l.take 1) u = de l 0 := by
  rw [swn_take u (by omega), swnTo_succ, if_pos hu]
theorem slotsR_ge : ∀ (l : List (Int × Int)) (p m : Int), slotsR p m l = true → ∀ i, i < l.length → m ≤ ab l i ∧ ab l i ≤ p - 1 ∧ 0 ≤ de l i ∧ de l i ≤ 1000
  | [], _, _, _, i, hi => absurd hi (by simp)
  | x :: r, p, m, h, i, hi => by
    simp only [slotsR, Bool.and_eq_true, decide_eq_true_eq] at h
    cases i with
    | zero => exact ⟨h.1.1, h.1.2, h.2.1.1, h.2.1.2⟩
    | succ i =>
      have k := slotsR_ge r p (x.1 + 1) h.2.2 i (by simpa using hi)
      have e1 : ab (x :: r) (i + 1) = ab r i := rfl
      have e2 : de (x :: r) (i + 1) = de r i := rfl
      rw [e1, e2]
      omega
theorem slotsR_Up : ∀ (l : List (Int × Int)) (p m : Int), slotsR p m l = true → Up l
  | [], _, _, _ => fun i j _ hj => absurd hj (by simp)
  | x :: r, p, m, h => fun i j hij hj => by
    simp only [slotsR, Bool.and_eq_true, decide_eq_true_eq] at h
    cases j with
    | zero => omega
    | succ j =>
      have e1 : ab (x :: r) (j + 1) = ab r j := rfl
      rw [e1]
      cases i with
      | zero =>
        have k := slotsR_ge r p (x.1 + 1) h.2.2 j (by simpa using hj)
        show x.1 < _
        omega
      | succ i =>
        have e2 : ab (x :: r) (i + 1) = ab r i := rfl
        rw [e2]
        exact slotsR_Up r p (x.1 + 1) h.2.2 i j (by omega) (by simpa using hj)
/-- What slots that may be are. -/
structure SOk (p : Int) (l : List (Int × Int)) : Prop where
  p1 : 1 ≤ p
  p2 : p ≤ 1099511627776
  pos : 0 < l.length
  few : l.length ≤ 8
  at0 : ab l 0 = 0
  up : Up l
  in_ : ∀ i, i < l.length → 0 ≤ ab l i ∧ ab l i ≤ p - 1 ∧ 0 ≤ de l i ∧ de l i ≤ 1000
theorem SOk.of {p : Int} {l : List (Int × Int)} (h1 : 1 ≤ p ∧ p ≤ 1099511627776) (h : slotsOk l p = true) : SOk p l := by
  unfold slotsOk at h
  simp only [Bool.and_eq_true, decide_eq_true_eq] at h
  have g := slotsR_ge l p 0 h.2.2
  have e : ab l 0 = 0 := by
    have := h.2.1
    cases l with
    | nil => simp at h
    | cons x r => exact this
  exact ⟨h1.1, h1.2, by omega, by omega, e, slotsR_Up l p 0 h.2.2, fun i hi => g i hi⟩
end Sdl
end Go.Proofs.Ytpgjjdpblilljaa
