/- Rows of frames, one behind the other: plain mathematics of Scan. -/
import Derived.Test.YtcmgefccihehkaaDoorFrm
namespace Go.Proofs.YtcmgefccihehkaaDoor.Frm
open Crc

def rows (fs : List Fr) : List Nat := fs.flatMap raw
def ends (fs : List Fr) (k : Nat) : Nat := (rows (fs.take k)).length
theorem rows_cons (f : Fr) (fs : List Fr) : rows (f :: fs) = raw f ++ rows fs := by simp [rows]
theorem rows_snoc (f : Fr) (fs : List Fr) : rows (fs ++ [f]) = rows fs ++ raw f := by simp [rows]
theorem rows_byte (fs : List Fr) (h : ∀ f ∈ fs, ∀ c ∈ f.body, c < 256) : ∀ c ∈ rows fs, c < 256 := by
  intro c hc
  obtain ⟨f, hf, hc⟩ := List.mem_flatMap.1 hc
  exact raw_byte f (h f hf) c hc
theorem ends_cons (f : Fr) (fs : List Fr) (k : Nat) : ends (f :: fs) (k + 1) = f.body.length + 11 + ends fs k := by
  simp [ends, rows_cons, raw_len]
theorem ends_succ (fs : List Fr) (k : Nat) (f : Fr) (h : fs[k]? = some f) : ends fs (k + 1) = ends fs k + (f.body.length + 11) := by
  unfold ends
  rw [List.take_add_one, h]
  simp only [Option.toList_some]
  rw [rows_snoc, List.length_append, raw_len]
/-- P3.1: Scan tells just those from the first on whose numbers rise by one. -/
theorem scan_rows : ∀ (fs : List Fr) (first : Int) (n : Nat), (∀ f ∈ fs, f.right) → n ≤ fs.length → (∀ (j : Nat) (f : Fr), j < n → fs[j]? = some f → f.seq = first + (j : Int)) → (∀ f, fs[n]? = some f → f.seq ≠ first + (n : Int)) →
    scan (rows fs) first = (fs.take n, ends fs n) := by
  intro fs
  induction fs with
  | nil =>
    intro first n _ hn _ _
    have : n = 0 := by simpa using hn
    subst this
    rfl
  | cons f fs ih =>
    intro first n hr hn hj hs
    rw [rows_cons]
    cases n with
    | zero =>
      have h := hs f rfl
      have hg := get_raw f (hr f (by simp)) (rows fs)
      rw [scan_stop _ _ (by rw [hg]; simp only; intro h2; exact h (by have := h2.2; omega))]
      simp [ends, rows]
    | succ n =>
      have h0 := hj 0 f (by omega) rfl
      rw [scan_raw f (hr f (by simp)) (rows fs) first (by simpa using h0)]
      rw [ih (first + 1) n (fun g hg => hr g (by simp [hg])) (by simpa using hn) (fun j g hjn hg => by have := hj (j + 1) g (by omega) (by simpa using hg); omega) (fun g hg => by have := hs g (by simpa using hg); omega)]
      rw [ends_cons]
      rfl
/-- P3.3: cut bytes scan to the first ones of the same frames. -/
theorem scan_cut : ∀ (fs : List Fr) (first : Int) (k n : Nat), (∀ f ∈ fs, f.right) → (∀ (j : Nat) (f : Fr), fs[j]? = some f → f.seq = first + (j : Int)) → n ≤ fs.length → ends fs n ≤ k → (∀ f, fs[n]? = some f → k < ends fs n + (f.body.length + 11)) →
    scan ((rows fs).take k) first = (fs.take n, ends fs n) := by
  intro fs
  induction fs with
  | nil =>
    intro first k n _ _ hn _ _
    have : n = 0 := by simpa using hn
    subst this
    simp [rows, ends, scan_nil]
  | cons f fs ih =>
    intro first k n hr hj hn hk hs
    rw [rows_cons]
    cases n with
    | zero =>
      have h := hs f rfl
      have hlt : k < f.body.length + 11 := by simpa [ends, rows] using h
      rw [List.take_append_of_le_length (by rw [raw_len]; omega)]
      rw [scan_stop _ _ (fun h2 => get_cut f (hr f (by simp)).2.2.2.2 k hlt h2.1)]
      simp [ends, rows]
    | succ n =>
      rw [ends_cons] at hk
      have h0 := hj 0 f rfl
      have e : (raw f ++ rows fs).take k = raw f ++ (rows fs).take (k - (f.body.length + 11)) := by
        rw [List.take_append, raw_len, List.take_of_length_le (by rw [raw_len]; omega)]
      rw [e, scan_raw f (hr f (by simp)) _ first (by simpa using h0)]
      rw [ih (first + 1) (k - (f.body.length + 11)) n (fun g hg => hr g (by simp [hg])) (fun j g hg => by have := hj (j + 1) g (by simpa using hg); omega) (by simpa using hn) (by omega) (fun g hg => by
        have := hs g (by simpa using hg)
        rw [ends_cons] at this
        omega)]
      rw [ends_cons]
      rfl
theorem rows_len_ends (fs : List Fr) : (rows fs).length = ends fs fs.length := by unfold ends; rw [List.take_length]
theorem scan_all (fs : List Fr) (first : Int) (hr : ∀ f ∈ fs, f.right) (hj : ∀ (j : Nat) (f : Fr), fs[j]? = some f → f.seq = first + (j : Int)) : scan (rows fs) first = (fs, (rows fs).length) := by
  have := scan_rows fs first fs.length hr (Nat.le_refl _) (fun j f _ h => hj j f h) (fun f h => by rw [List.getElem?_eq_none (Nat.le_refl _)] at h; cases h)
  rw [this, List.take_length, rows_len_ends]
end Go.Proofs.YtcmgefccihehkaaDoor.Frm
