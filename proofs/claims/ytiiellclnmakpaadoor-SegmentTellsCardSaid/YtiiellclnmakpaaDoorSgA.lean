/- Names of segments: plain mathematics. -/
import Derived.Lib.ItoaNum
import Derived.Lib.ItoaMem
import Derived.Lib.ParseIntB
import Derived.Lib.ParseIntBCases
import Derived.Lib.ParseIntBTie
import Derived.Lib.Repeat
import Derived.Lib.Strings
namespace Go.Proofs.YtiiellclnmakpaaDoor.Sgn
open Go.Lib

/-- The name of a number, the number of a name. -/
def nm (n : Int) : List UInt8 := if 0 ≤ n ∧ n ≤ 1073741824 then 115 :: (repeatL [48] (10 - (itoa n).length) ++ itoa n) else []
def fst (l : List UInt8) : Int × Bool := match parseIntB 64 (trimPrefix l [115]) with
  | .ok v => if nm v = l then (v, true) else (0, false)
  | _ => (0, false)

theorem nDigits_le (k : Nat) : ∀ u, u < 10 ^ (k + 1) → nDigits u ≤ k + 1 := by
  induction k with
  | zero => intro u h; rw [nDigits_small (by simpa using h)]; exact Nat.le_refl _
  | succ k ih =>
    intro u h
    by_cases h9 : u < 10
    · rw [nDigits_small h9]; omega
    · rw [nDigits_big h9]
      have := ih (u / 10) (by rw [Nat.pow_succ] at h; omega)
      omega
theorem itoa_len {n : Int} (h0 : 0 ≤ n) (h1 : n ≤ 1073741824) : (itoa n).length ≤ 10 := by
  obtain ⟨u, rfl⟩ := Int.eq_ofNat_of_zero_le h0
  rw [itoa_nonneg, decDigits_length]
  exact nDigits_le 9 u (by omega)
/-- Digits, one more at the end. -/
theorem parse_snoc (M : Nat) : ∀ (l : List UInt8) (acc u d : Nat), parseUintM M acc l = .ok u → d < 10 → u * 10 + d ≤ M → u < 1844674407370955162 → parseUintM M acc (l ++ [UInt8.ofNat (48 + d)]) = .ok (u * 10 + d) := by
  intro l
  induction l with
  | nil =>
    intro acc u d h hd hu h1
    simp only [parseUintM] at h
    injection h with h
    subst h
    have e : (UInt8.ofNat (48 + d)).toNat = 48 + d := by simp; omega
    simp only [List.nil_append, parseUintM, e]
    rw [if_pos (by omega), if_neg (by omega), if_neg (by omega)]
    congr 1
    omega
  | cons c l ih =>
    intro acc u d h hd hu h1
    simp only [List.cons_append, parseUintM] at h ⊢
    split at h
    · rename_i hc
      rw [if_pos hc]
      split at h
      · cases h
      · rename_i h2
        rw [if_neg h2]
        split at h
        · cases h
        · rename_i h3
          rw [if_neg h3]
          exact ih _ u d h hd hu h1
    · cases h
theorem parse_digits (M : Nat) : ∀ (k u : Nat), u < 10 ^ (k + 1) → u ≤ M → u < 1844674407370955162 → parseUintM M 0 (decDigits u) = .ok u := by
  intro k
  induction k with
  | zero =>
    intro u h hu _
    have h9 : u < 10 := by simpa using h
    rw [decDigits_one h9]
    have := parse_snoc M [] 0 0 u rfl h9 (by omega) (by omega)
    simpa using this
  | succ k ih =>
    intro u h hu h1
    by_cases h9 : u < 10
    · rw [decDigits_one h9]
      have := parse_snoc M [] 0 0 u rfl h9 (by omega) (by omega)
      simpa using this
    · rw [decDigits, dif_neg h9]
      have h2 := ih (u / 10) (by rw [Nat.pow_succ] at h; omega) (by omega) (by omega)
      have := parse_snoc M _ 0 (u / 10) (u % 10) h2 (Nat.mod_lt _ (by decide)) (by omega) (by omega)
      rw [this]
      congr 1
      omega
theorem parse_noughts (M : Nat) (l : List UInt8) : ∀ k, parseUintM M 0 (repeatL [48] k ++ l) = parseUintM M 0 l := by
  intro k
  induction k with
  | zero => simp [repeatL]
  | succ k ih =>
    simp only [repeatL, List.cons_append, List.nil_append, parseUintM]
    rw [if_pos (by decide), if_neg (by decide)]
    simpa using ih
theorem decDigits_ne (u : Nat) : decDigits u ≠ [] := by
  rw [decDigits]
  split <;> simp
theorem digits_head (u : Nat) : ∀ c ∈ decDigits u, 48 ≤ c.toNat ∧ c.toNat ≤ 57 := by
  induction u using Nat.strongRecOn with
  | _ u ih =>
    rw [decDigits]
    split
    · rename_i h
      intro c hc
      simp at hc
      subst hc
      simp
      omega
    · rename_i h
      intro c hc
      rcases List.mem_append.1 hc with hc | hc
      · exact ih (u / 10) (by omega) c hc
      · simp at hc
        subst hc
        simp
        omega
theorem noughts_mem (k : Nat) : ∀ c ∈ repeatL [48] k, c = 48 := by
  induction k with
  | zero => intro c hc; simp [repeatL] at hc
  | succ k ih =>
    intro c hc
    simp [repeatL] at hc
    rcases hc with rfl | hc
    · rfl
    · exact ih c hc
/-- A right number is got from its name. -/
theorem fst_nm {n : Int} (h0 : 0 ≤ n) (h1 : n ≤ 1073741824) : fst (nm n) = (n, true) := by
  have hn : nm n = 115 :: (repeatL [48] (10 - (itoa n).length) ++ itoa n) := by unfold nm; rw [if_pos ⟨h0, h1⟩]
  obtain ⟨u, rfl⟩ := Int.eq_ofNat_of_zero_le h0
  rw [itoa_nonneg] at hn
  generalize 10 - (decDigits u).length = k at hn
  have ht : trimPrefix (nm (u : Int)) [115] = repeatL [48] k ++ decDigits u := by
    rw [hn]; simp [trimPrefix, hasPrefix]
  have hp : parseUintM (2 ^ 64 - 1) 0 (repeatL [48] k ++ decDigits u) = .ok u := by
    rw [parse_noughts]; exact parse_digits _ 9 u (by omega) (by omega) (by omega)
  have hne : repeatL [48] k ++ decDigits u ≠ [] := by simp [decDigits_ne]
  have hp2 : parseIntB 64 (repeatL [48] k ++ decDigits u) = .ok (u : Int) := by
    obtain ⟨c, r, hcr⟩ : ∃ c r, repeatL [48] k ++ decDigits u = c :: r := by
      cases h : repeatL [48] k ++ decDigits u with
      | nil => exact absurd h hne
      | cons c r => exact ⟨c, r, rfl⟩
    have hc : 48 ≤ c.toNat ∧ c.toNat ≤ 57 := by
      have hm : c ∈ repeatL [48] k ++ decDigits u := by rw [hcr]; simp
      rcases List.mem_append.1 hm with hm | hm
      · rw [noughts_mem k c hm]; decide
      · exact digits_head u c hm
    rw [hcr] at hp ⊢
    have e1 : parseUintB 64 (c :: r) = .ok u := by unfold parseUintB; rw [if_neg (by simp)]; exact hp
    unfold parseIntB
    simp only []
    rw [if_neg (by omega), e1]
    simp only []
    rw [if_neg (by omega), if_neg (by omega), if_neg (by omega)]
  unfold fst
  rw [ht, hp2]
  simp
theorem nm_no {n : Int} (h : ¬ (0 ≤ n ∧ n ≤ 1073741824)) : nm n = [] := by unfold nm; rw [if_neg h]
theorem fst_nil : fst [] = (0, false) := by
  unfold fst
  rw [show trimPrefix [] [115] = [] from rfl]
  rfl
theorem fst_yes {l : List UInt8} (h : (fst l).2 = true) : nm (fst l).1 = l := by
  unfold fst at *
  split at h
  · split at h
    · rename_i v _ hn; simp [hn]
    · cases h
  · cases h
theorem fst_no {l : List UInt8} (h : (fst l).2 = false) : (fst l).1 = 0 := by
  unfold fst at *
  split at h
  · split at h
    · cases h
    · rename_i v _ hn; rw [if_neg hn]
  · rfl
theorem nm_ne {n : Int} (h0 : 0 ≤ n) (h1 : n ≤ 1073741824) : nm n ≠ [] := by unfold nm; rw [if_pos ⟨h0, h1⟩]; simp
theorem nm_len (n : Int) : (nm n).length ≤ 11 := by
  unfold nm
  split
  · rename_i h
    have := itoa_len h.1 h.2
    simp [repeatL_length]
    omega
  · simp
end Go.Proofs.YtiiellclnmakpaaDoor.Sgn
