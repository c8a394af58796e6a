/- Names of segments as the reference makes and reads them: plain mathematics. -/
import Derived.Test.YtiiellclnmakpaaDoorSgA
namespace Go.Proofs.YtiiellclnmakpaaDoor.Sgn
open Go.Lib

/-- The last k digits. -/
def pad : Nat → Nat → List UInt8
  | 0, _ => []
  | k + 1, u => pad k (u / 10) ++ [UInt8.ofNat (48 + u % 10)]
theorem pad_len : ∀ k u, (pad k u).length = k
  | 0, _ => rfl
  | k + 1, u => by simp [pad, pad_len k]
theorem pad_cons : ∀ k u, pad (k + 1) u = UInt8.ofNat (48 + u / 10 ^ k % 10) :: pad k u
  | 0, u => by simp [pad]
  | k + 1, u => by
    have ih := pad_cons k (u / 10)
    rw [pad, ih]
    have e : u / 10 / 10 ^ k = u / 10 ^ (k + 1) := by rw [Nat.div_div_eq_div_mul, Nat.pow_succ, Nat.mul_comm]
    rw [e]
    rfl
theorem nDigits_pos (u : Nat) : 1 ≤ nDigits u := by
  by_cases h : u < 10
  · rw [nDigits_small h]; exact Nat.le_refl _
  · rw [nDigits_big h]; omega
theorem repeat_snoc (k : Nat) : repeatL [48] (k + 1) = repeatL [48] k ++ [48] := by rw [repeatL_add]; rfl
theorem pad_zero : ∀ k, pad k 0 = repeatL [48] k
  | 0 => rfl
  | k + 1 => by rw [pad, repeat_snoc, Nat.zero_div, pad_zero k]; rfl
theorem pad_dec : ∀ k u, nDigits u ≤ k → pad k u = repeatL [48] (k - nDigits u) ++ decDigits u
  | 0, u, h => by have := nDigits_pos u; omega
  | k + 1, u, h => by
    by_cases h9 : u < 10
    · rw [pad, nDigits_small h9, show u / 10 = 0 from by omega, pad_zero, decDigits, dif_pos h9, show u % 10 = u from by omega]
      rfl
    · rw [nDigits_big h9] at h ⊢
      have e : decDigits u = decDigits (u / 10) ++ [UInt8.ofNat (48 + u % 10)] := by rw [decDigits, dif_neg h9]
      rw [pad, pad_dec k (u / 10) (by omega), e, List.append_assoc, show k + 1 - (nDigits (u / 10) + 1) = k - nDigits (u / 10) from by omega]
theorem nm_pad {u : Nat} (h : u ≤ 1073741824) : nm (u : Int) = 115 :: pad 10 u := by
  unfold nm
  rw [if_pos ⟨by omega, by omega⟩, itoa_nonneg, decDigits_length, pad_dec 10 u (nDigits_le 9 u (by omega))]

/-- What digits count. -/
def val10 (l : List UInt8) : Nat := l.foldl (fun a c => a * 10 + (c.toNat - 48)) 0
theorem val_snoc (l : List UInt8) (c : UInt8) : val10 (l ++ [c]) = val10 l * 10 + (c.toNat - 48) := by simp [val10]
def digs (l : List UInt8) : Prop := ∀ c ∈ l, 48 ≤ c.toNat ∧ c.toNat ≤ 57
theorem dig_val (d : Nat) (h : d < 10) : (UInt8.ofNat (48 + d)).toNat = 48 + d := by simp; omega
theorem val_pad : ∀ k u, u < 10 ^ k → val10 (pad k u) = u
  | 0, u, h => by simp [val10, pad] at *; omega
  | k + 1, u, h => by
    rw [pad, val_snoc, val_pad k (u / 10) (by rw [Nat.pow_succ] at h; omega), dig_val _ (Nat.mod_lt _ (by decide))]
    omega
theorem pad_digs : ∀ k u, digs (pad k u)
  | 0, _ => by intro c hc; cases hc
  | k + 1, u => by
    intro c hc
    rw [pad] at hc
    rcases List.mem_append.1 hc with hc | hc
    · exact pad_digs k _ c hc
    · have : c = UInt8.ofNat (48 + u % 10) := by simpa using hc
      rw [this, dig_val _ (Nat.mod_lt _ (by decide))]
      omega
theorem pad_val (k : Nat) : ∀ l : List UInt8, l.length = k → digs l → pad k (val10 l) = l := by
  induction k with
  | zero => intro l h _; rw [List.eq_nil_of_length_eq_zero h]; rfl
  | succ k ih =>
    intro l h hd
    obtain ⟨m, c, rfl⟩ : ∃ m c, l = m ++ [c] := ⟨l.dropLast, l.getLast (by intro e; subst e; simp at h), (List.dropLast_concat_getLast _).symm⟩
    have hm : m.length = k := by simpa using h
    have hc := hd c (by simp)
    have h1 := ih m hm (fun x hx => hd x (by simp [hx]))
    rw [val_snoc, pad, show (val10 m * 10 + (c.toNat - 48)) / 10 = val10 m from by omega, h1, show (val10 m * 10 + (c.toNat - 48)) % 10 = c.toNat - 48 from by omega]
    congr 2
    apply UInt8.toNat_inj.1
    rw [dig_val _ (by omega)]
    omega
/-- The number of a name, as the reference reads it. -/
def rfst (l : List UInt8) : Int × Bool := if l.length = 11 ∧ l.headD 0 = 115 ∧ (l.drop 1).all (fun c => decide (48 ≤ c.toNat ∧ c.toNat ≤ 57)) = true ∧ val10 (l.drop 1) ≤ 1073741824 then ((val10 (l.drop 1) : Int), true) else (0, false)
theorem rfst_nm {u : Nat} (h : u ≤ 1073741824) : rfst (nm (u : Int)) = ((u : Int), true) := by
  rw [nm_pad h]
  unfold rfst
  have hv := val_pad 10 u (by omega)
  rw [if_pos ⟨by simp [pad_len], rfl, by
    rw [List.all_eq_true]
    intro c hc
    have := pad_digs 10 u c (by simpa using hc)
    simpa using this, by show val10 (pad 10 u) ≤ _; rw [hv]; exact h⟩]
  show (((val10 (pad 10 u) : Nat) : Int), true) = _
  rw [hv]
theorem rfst_yes {l : List UInt8} (h : (rfst l).2 = true) : ∃ u : Nat, u ≤ 1073741824 ∧ rfst l = ((u : Int), true) ∧ l = nm (u : Int) := by
  unfold rfst at *
  split at h
  · rename_i hc
    rw [if_pos hc]
    obtain ⟨h1, h2, h3, h4⟩ := hc
    refine ⟨val10 (l.drop 1), h4, rfl, ?_⟩
    rw [nm_pad h4, pad_val 10 (l.drop 1) (by rw [List.length_drop]; omega) (fun c hc => by have := List.all_eq_true.1 h3 c hc; simpa using this)]
    match l, h1 with
    | c :: l, _ =>
      have : c = 115 := by simpa using h2
      rw [this]
      rfl
  · cases h
theorem rfst_no {l : List UInt8} (h : (rfst l).2 = false) : rfst l = (0, false) := by
  unfold rfst at *
  split at h
  · cases h
  · rename_i hc; rw [if_neg hc]
theorem val_lt10 (k : Nat) : ∀ l : List UInt8, l.length = k → digs l → val10 l < 10 ^ k := by
  induction k with
  | zero => intro l h _; rw [List.eq_nil_of_length_eq_zero h]; decide
  | succ k ih =>
    intro l h hd
    obtain ⟨m, c, rfl⟩ : ∃ m c, l = m ++ [c] := ⟨l.dropLast, l.getLast (by intro e; subst e; simp at h), (List.dropLast_concat_getLast _).symm⟩
    have hm : m.length = k := by simpa using h
    have hc := hd c (by simp)
    have h1 := ih m hm (fun x hx => hd x (by simp [hx]))
    rw [val_snoc, Nat.pow_succ]
    omega
theorem rfst_short {l : List UInt8} (h : l.length ≠ 11) : rfst l = (0, false) := by
  unfold rfst; rw [if_neg (fun hc => h hc.1)]
theorem rfst_head {l : List UInt8} (h : l.headD 0 ≠ 115) : rfst l = (0, false) := by
  unfold rfst; rw [if_neg (fun hc => h hc.2.1)]
theorem rfst_bad {l : List UInt8} (c : UInt8) (hm : c ∈ l.drop 1) (h : ¬ (48 ≤ c.toNat ∧ c.toNat ≤ 57)) : rfst l = (0, false) := by
  unfold rfst; rw [if_neg (fun hc => h (by have := List.all_eq_true.1 hc.2.2.1 c hm; simpa using this))]
theorem rfst_big {l : List UInt8} (h : 1073741824 < val10 (l.drop 1)) : rfst l = (0, false) := by
  unfold rfst; rw [if_neg (fun hc => by have := hc.2.2.2; omega)]
theorem rfst_ok {l : List UInt8} (h1 : l.length = 11) (h2 : l.headD 0 = 115) (h3 : digs (l.drop 1)) (h4 : val10 (l.drop 1) ≤ 1073741824) : rfst l = ((val10 (l.drop 1) : Int), true) := by
  unfold rfst; rw [if_pos ⟨h1, h2, by rw [List.all_eq_true]; intro c hc; simpa using h3 c hc, h4⟩]
/-- Both read a name alike. -/
theorem rfst_fst (l : List UInt8) : rfst l = fst l := by
  cases hb : (rfst l).2 with
  | true =>
    obtain ⟨u, hu, h1, h2⟩ := rfst_yes hb
    rw [h1, h2, fst_nm (by omega) (by omega)]
  | false =>
    rw [rfst_no hb]
    cases hc : (fst l).2 with
    | false => exact (Prod.ext (fst_no hc).symm hc.symm)
    | true =>
      have h1 := fst_yes hc
      by_cases hr : 0 ≤ (fst l).1 ∧ (fst l).1 ≤ 1073741824
      · obtain ⟨u, hu⟩ := Int.eq_ofNat_of_zero_le hr.1
        rw [hu] at h1
        have := rfst_nm (u := u) (by omega)
        rw [show nm ((u : Nat) : Int) = l from h1] at this
        rw [this] at hb
        cases hb
      · rw [nm_no hr] at h1
        rw [← h1, fst_nil] at hc
        cases hc
end Go.Proofs.YtiiellclnmakpaaDoor.Sgn
