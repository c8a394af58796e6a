/- The index of a head and frames in a row, and what is found by it: plain mathematics. -/
import Derived.Test.YtcmgefccihehkaaDoorSgB
import Derived.Test.YtcmgefccihehkaaDoorSgX
namespace Go.Proofs.YtcmgefccihehkaaDoor
open Go.RowKit
open Crc Frm

def tl : List Fr → Nat → List (Nat × Fr)
  | [], _ => []
  | f :: r, at_ => (at_, f) :: tl r (at_ + (raw f).length)
theorem tl_len : ∀ (L : List Fr) (at_ : Nat), (tl L at_).length = L.length := by
  intro L
  induction L with
  | nil => intro at_; rfl
  | cons f r ih => intro at_; simp [tl, ih]
theorem tl_get : ∀ (L : List Fr) (at_ i : Nat), (tl L at_)[i]? = (L[i]?).map fun f => (at_ + ends L i, f) := by
  intro L
  induction L with
  | nil => intro at_ i; simp [tl]
  | cons f r ih =>
    intro at_ i
    cases i with
    | zero => simp [tl, ends, rows]
    | succ i =>
      simp only [tl, List.getElem?_cons_succ, ih, ends_cons]
      rw [raw_len]
      cases r[i]? <;> simp
      omega
theorem told_rows : ∀ (L : List Fr) (P : List Nat) (n : Nat), (∀ f ∈ L, f.right) → L.length < n → toldN n (P ++ rows L) P.length = tl L P.length := by
  intro L
  induction L with
  | nil =>
    intro P n _ hn
    cases n with
    | zero => simp at hn
    | succ n =>
      simp only [toldN, tl]
      rw [if_neg]
      rw [show rows [] = [] from rfl, List.append_nil, List.drop_length]
      exact get_short (by simp)
  | cons f r ih =>
    intro P n hr hn
    cases n with
    | zero => simp at hn
    | succ n =>
      have hd : (P ++ rows (f :: r)).drop P.length = raw f ++ rows r := by rw [List.drop_left, rows_cons]
      have hg := get_raw f (hr f (by simp)) (rows r)
      simp only [toldN, tl]
      rw [hd, hg, if_pos rfl]
      have := ih (P ++ raw f) n (fun g hg => hr g (by simp [hg])) (by simpa using hn)
      rw [List.append_assoc, ← rows_cons, List.length_append] at this
      simp only
      rw [← raw_len f, this]
theorem tolds_rows (q : Nat) (L : List Fr) (m : Nat) (hr : ∀ f ∈ L, f.right) : tolds (head q ++ rows L) (12 + ends L m) = tl (L.drop m) (12 + ends L m) := by
  have e : head q ++ rows L = (head q ++ rows (L.take m)) ++ rows (L.drop m) := by
    rw [List.append_assoc]
    congr 1
    unfold rows
    rw [← List.flatMap_append, List.take_append_drop]
  have el : (head q ++ rows (L.take m)).length = 12 + ends L m := by rw [List.length_append, head_len]; rfl
  unfold tolds
  rw [e, ← el]
  refine told_rows _ _ _ (fun f hf => hr f (List.mem_of_mem_drop hf)) ?_
  have : ∀ (M : List Fr), M.length ≤ (rows M).length := by
    intro M
    induction M with
    | nil => simp
    | cons f r ih => rw [rows_cons, List.length_append, raw_len, List.length_cons]; omega
  have := this (L.drop m)
  rw [List.length_append]
  omega
/-- What is found in a row. -/
theorem fnd_row : ∀ (L : List Fr) (at_ : Nat) (s : Int) (d : Nat), (∀ (j : Nat) (f : Fr), L[j]? = some f → f.seq = s + (j : Int)) → fnd (tl L at_) (s + (d : Int)) = L[d]? := by
  intro L
  induction L with
  | nil => intro at_ s d _; simp [tl, fnd]
  | cons f r ih =>
    intro at_ s d h
    have h0 := h 0 f rfl
    cases d with
    | zero => simp only [tl, fnd]; rw [if_pos (by omega)]; rfl
    | succ d =>
      simp only [tl, fnd]
      rw [if_neg (by omega), if_neg (by omega), show s + ((d + 1 : Nat) : Int) = (s + 1) + (d : Int) from by omega, ih _ (s + 1) d (fun j g hg => by have := h (j + 1) g (by simpa using hg); omega)]
      rfl

def nxt (ev c : Nat) : Nat := (ev - c % ev) % ev
theorem nxt_zero {ev c : Nat} (_ : 0 < ev) (h : c % ev = 0) : nxt ev c = 0 := by unfold nxt; rw [h, Nat.sub_zero, Nat.mod_self]
theorem nxt_lt {ev c : Nat} (he : 0 < ev) : nxt ev c < ev := Nat.mod_lt _ he
theorem nxt_pos {ev c : Nat} (he : 0 < ev) (h : c % ev ≠ 0) : nxt ev c = ev - c % ev := by
  unfold nxt
  have := Nat.mod_lt c he
  rw [Nat.mod_eq_of_lt (by omega)]
theorem mod_succ' {ev c : Nat} (he : 0 < ev) : (c + 1) % ev = if c % ev + 1 = ev then 0 else c % ev + 1 := by
  have h1 := Nat.mod_lt c he
  have e : (c + 1) % ev = (c % ev + 1) % ev := by rw [Nat.add_mod, Nat.add_mod (c % ev) 1, Nat.mod_mod]
  rw [e]
  split
  · rename_i h; rw [h, Nat.mod_self]
  · rw [Nat.mod_eq_of_lt (by omega)]
theorem nxt_succ {ev c : Nat} (he : 0 < ev) : nxt ev (c + 1) = if c % ev = 0 then ev - 1 else nxt ev c - 1 := by
  have h1 := Nat.mod_lt c he
  have hm := mod_succ' (c := c) he
  split
  · rename_i h0
    rw [h0] at hm
    by_cases h2 : 0 + 1 = ev
    · rw [if_pos h2] at hm
      rw [nxt_zero he hm]; omega
    · rw [if_neg h2] at hm
      rw [nxt_pos he (by omega), hm]
  · rename_i h0
    rw [nxt_pos he h0]
    by_cases h2 : c % ev + 1 = ev
    · rw [if_pos h2] at hm
      rw [nxt_zero he hm]; omega
    · rw [if_neg h2] at hm
      rw [nxt_pos he (by omega), hm]; omega
theorem ix_get : ∀ (l : List (Nat × Fr)) (ev c i : Nat), 0 < ev → (ix l ev c)[i]? = (l[nxt ev c + i * ev]?).map fun x => (x.2.seq, (x.1 : Int)) := by
  intro l
  induction l with
  | nil => intro ev c i _; simp [ix]
  | cons y l ih =>
    intro ev c i he
    have hs := nxt_succ (c := c) he
    simp only [ix]
    by_cases h0 : c % ev = 0
    · rw [if_pos h0] at hs ⊢
      rw [nxt_zero he h0]
      cases i with
      | zero => simp
      | succ i =>
        rw [List.singleton_append, List.getElem?_cons_succ, ih ev (c + 1) i he, hs, show 0 + (i + 1) * ev = (ev - 1 + i * ev) + 1 from by rw [Nat.add_mul]; omega, List.getElem?_cons_succ]
    · rw [if_neg h0] at hs ⊢
      have hp := nxt_pos he h0
      have h1 := Nat.mod_lt c he
      rw [List.nil_append, ih ev (c + 1) i he, hs, show nxt ev c + i * ev = (nxt ev c - 1 + i * ev) + 1 from by omega, List.getElem?_cons_succ]
theorem ix_count : ∀ (l : List (Nat × Fr)) (ev c : Nat), 0 < ev → (ix l ev c).length = (l.length + (ev - 1 - nxt ev c)) / ev := by
  intro l
  induction l with
  | nil =>
    intro ev c he
    simp only [ix, List.length_nil]
    rw [Nat.div_eq_of_lt (by omega)]
  | cons y l ih =>
    intro ev c he
    have hs := nxt_succ (c := c) he
    have hl := nxt_lt (c := c) he
    simp only [ix, List.length_append, List.length_cons, ih ev (c + 1) he]
    by_cases h0 : c % ev = 0
    · rw [if_pos h0] at hs ⊢
      rw [nxt_zero he h0, hs, show ev - 1 - (ev - 1) = 0 from by omega, show l.length + 1 + (ev - 1 - 0) = l.length + ev from by omega, Nat.add_div_right _ he]
      simp only [List.length_cons, List.length_nil, Nat.add_zero]
      omega
    · rw [if_neg h0] at hs ⊢
      have hp := nxt_pos he h0
      have h1 := Nat.mod_lt c he
      rw [hs, show l.length + (ev - 1 - (nxt ev c - 1)) = l.length + 1 + (ev - 1 - nxt ev c) from by omega]
      simp
/-- The index of a row. -/
def own_ix (L : List Fr) (ev : Nat) : List (Int × Int) := ix (tl L 12) ev 0
theorem own_ix_len (L : List Fr) (ev : Nat) (he : 0 < ev) : (own_ix L ev).length = (L.length + ev - 1) / ev := by
  unfold own_ix
  rw [ix_count _ _ _ he, tl_len, nxt_zero he (Nat.zero_mod _)]
  congr 1
  omega
theorem own_ix_get (L : List Fr) (ev i : Nat) (he : 0 < ev) : (own_ix L ev)[i]? = (L[i * ev]?).map fun f => (f.seq, ((12 + ends L (i * ev) : Nat) : Int)) := by
  unfold own_ix
  rw [ix_get _ _ _ _ he, nxt_zero he (Nat.zero_mod _), Nat.zero_add, tl_get]
  cases L[i * ev]? <;> rfl
theorem idx_row (q : Nat) (hq : q ≤ 1073741824) (L : List Fr) (ev : Nat) (he : 0 < ev) (hr : ∀ f ∈ L, f.right) (hj : ∀ (j : Nat) (f : Fr), L[j]? = some f → f.seq = (q : Int) + (j : Int)) : idx (head q ++ rows L) (ev : Int) = own_ix L ev := by
  have h := rd_head q hq L [] hr hj (by simp)
  rw [List.append_nil] at h
  unfold idx own_ix
  rw [h, if_neg (by simp; omega), Int.toNat_natCast]
  simp only
  rw [List.take_of_length_le (by rw [List.length_append, head_len]; omega)]
  have := tolds_rows q L 0 hr
  rw [show ends L 0 = 0 from rfl] at this
  rw [show (12 : Nat) = 12 + 0 from rfl, this]
  rfl
/-- What is found by it. -/
theorem ends_le (L : List Fr) (m : Nat) : ends L m ≤ (rows L).length := by
  unfold ends
  conv => rhs; rw [← List.take_append_drop m L]
  unfold rows
  rw [List.flatMap_append, List.length_append]
  omega
theorem found (q : Nat) (L : List Fr) (ev : Nat) (he : 0 < ev) (hr : ∀ f ∈ L, f.right) (hj : ∀ (j : Nat) (f : Fr), L[j]? = some f → f.seq = (q : Int) + (j : Int)) (i : Int) (at_ : Int) (is : Bool) (hB : Bg (own_ix L ev) ((q : Int) + i) at_ is) :
    fnd (if is = true ∧ 0 ≤ at_ ∧ at_ ≤ ((head q ++ rows L).length : Int) then tolds (head q ++ rows L) at_.toNat else []) ((q : Int) + i) = if 0 ≤ i then L[i.toNat]? else none := by
  rcases hB with ⟨rfl, k, x, hx, hxi, rfl, _⟩ | ⟨rfl, rfl, hno⟩
  · rw [own_ix_get L ev k he] at hx
    obtain ⟨f, hf, rfl⟩ := Option.map_eq_some_iff.1 hx
    have hs := hj _ f hf
    simp only at hxi
    have hle := ends_le L (k * ev)
    rw [if_pos ⟨rfl, by simp only; omega, by simp only; rw [List.length_append, head_len]; omega⟩]
    simp only
    rw [Int.toNat_natCast, tolds_rows q L (k * ev) hr, if_pos (by omega)]
    obtain ⟨d, hd⟩ : ∃ d : Nat, i = ((k * ev : Nat) : Int) + (d : Int) := ⟨(i - ((k * ev : Nat) : Int)).toNat, by omega⟩
    rw [show (q : Int) + i = ((q : Int) + ((k * ev : Nat) : Int)) + (d : Int) from by omega, fnd_row (L.drop (k * ev)) _ _ d (fun j g hg => by
      rw [List.getElem?_drop] at hg
      have := hj _ g hg
      omega), List.getElem?_drop]
    congr 1
    omega
  · rw [if_neg (by simp)]
    by_cases h0 : 0 ≤ i
    · rw [if_pos h0]
      cases hL : L[0]? with
      | none =>
        have : L = [] := by cases L with | nil => rfl | cons a l => simp at hL
        subst this
        rfl
      | some f =>
        have hg := own_ix_get L ev 0 he
        rw [Nat.zero_mul, hL] at hg
        have h1 := hno 0 _ hg
        have h2 := hj 0 f hL
        simp only at h1
        omega
    · rw [if_neg h0]
      rfl
end Go.Proofs.YtcmgefccihehkaaDoor
