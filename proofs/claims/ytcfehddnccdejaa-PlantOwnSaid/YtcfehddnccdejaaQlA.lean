/- Replicas, and what they do, as plain mathematics. -/
import Derived.Test.YtcfehddnccdejaaLiA
import Derived.Test.YtcfehddnccdejaaFxA
namespace Go.Proofs.Ytcfehddnccdejaa
set_option linter.unusedSimpArgs false
set_option linter.unusedVariables false
namespace Plt
open Evn

structure Pt where
  ready : Int
  start : List Int
  wait : Int
  util : Int
def sm : List Int → Int
  | [] => 0
  | x :: l => x + sm l
def all (p : Pt) : Int := p.ready + sm p.start
theorem sm_append (a b : List Int) : sm (a ++ b) = sm a + sm b := by
  induction a with
  | nil => simp [sm]
  | cons x a ih => simp only [List.cons_append, sm, ih]; omega
theorem sm_take_succ {l : List Int} {k : Nat} (h : k < l.length) : sm (l.take (k + 1)) = sm (l.take k) + l.getD k 0 := by
  rw [List.take_succ_eq_append_getElem h, sm_append, List.getD_eq_getElem?_getD, List.getElem?_eq_getElem h]
  simp [sm]
/-- May a plant be. -/
def okT (p : Pt) : Bool := decide ((0 ≤ p.ready ∧ p.ready ≤ 1000) ∧ p.start.length ≤ 8 ∧ (0 ≤ p.wait ∧ p.wait ≤ 1000000000) ∧ (0 ≤ p.util ∧ p.util ≤ 1000000000)) && (p.start.all (fun x => decide (0 ≤ x ∧ x ≤ 1000)) && decide (all p ≤ 1000))
structure TOk (p : Pt) : Prop where
  r1 : 0 ≤ p.ready
  r2 : p.ready ≤ 1000
  len : p.start.length ≤ 8
  w1 : 0 ≤ p.wait
  w2 : p.wait ≤ 1000000000
  u1 : 0 ≤ p.util
  u2 : p.util ≤ 1000000000
  nums : ∀ x ∈ p.start, 0 ≤ x ∧ x ≤ 1000
  all_ : all p ≤ 1000
theorem TOk.of {p : Pt} (h : okT p = true) : TOk p := by
  unfold okT at h
  simp only [Bool.and_eq_true, decide_eq_true_eq, List.all_eq_true] at h
  exact ⟨h.1.1.1, h.1.1.2, h.1.2.1, h.1.2.2.1.1, h.1.2.2.1.2, h.1.2.2.2.1, h.1.2.2.2.2, h.2.1, h.2.2⟩
theorem okT_of {p : Pt} (h : TOk p) : okT p = true := by
  unfold okT
  simp only [Bool.and_eq_true, decide_eq_true_eq, List.all_eq_true]
  exact ⟨⟨⟨h.r1, h.r2⟩, h.len, ⟨h.w1, h.w2⟩, h.u1, h.u2⟩, h.nums, h.all_⟩
theorem sm_nn {l : List Int} (h : ∀ x ∈ l, 0 ≤ x) : 0 ≤ sm l := by
  induction l with
  | nil => exact Int.le_refl _
  | cons x l ih =>
    have h1 := h x (by simp)
    have h2 := ih (fun y hy => h y (by simp [hy]))
    simp only [sm]; omega
/-- The first of those that begin is ready. -/
def first (p : Pt) : Pt := match p.start with
  | [] => p
  | x :: l => { p with ready := p.ready + x, start := l }
theorem all_first (p : Pt) : all (first p) = all p := by
  unfold first
  match h : p.start with
  | [] => rfl
  | x :: l => unfold all; rw [h]; simp only [sm]; omega
/-- As long as d, by noughts. -/
def pad (l : List Int) (d : Nat) : List Int := l ++ List.replicate (d - l.length) 0
def put (l : List Int) (d : Nat) (n : Int) : List Int := (pad l d).set (d - 1) ((pad l d).getD (d - 1) 0 + n)
theorem sm_rep (n : Nat) : sm (List.replicate n 0) = 0 := by
  induction n with
  | zero => rfl
  | succ n ih => simp [List.replicate_succ, sm, ih]
theorem sm_pad (l : List Int) (d : Nat) : sm (pad l d) = sm l := by unfold pad; rw [sm_append, sm_rep]; omega
theorem pad_len (l : List Int) (d : Nat) : (pad l d).length = max l.length d := by unfold pad; simp; omega
theorem sm_set {l : List Int} {k : Nat} (h : k < l.length) (v : Int) : sm (l.set k v) = sm l - l.getD k 0 + v := by
  induction l generalizing k with
  | nil => simp at h
  | cons x l ih =>
    cases k with
    | zero => simp [sm]; omega
    | succ k =>
      simp only [List.set_cons_succ, sm, List.getD_cons_succ]
      rw [ih (by simpa using h)]; omega
theorem sm_put {l : List Int} {d : Nat} (h : 0 < d) (n : Int) : sm (put l d n) = sm l + n := by
  unfold put
  rw [sm_set (by rw [pad_len]; omega), sm_pad]; omega
/-- So many go, from behind: what is left, and how many are still to go. -/
def back : List Int → Int → List Int × Int
  | [], n => ([], n)
  | x :: l, n => ((x - min x (back l n).2) :: (back l n).1, (back l n).2 - min x (back l n).2)
theorem back_len (l : List Int) (n : Int) : (back l n).1.length = l.length := by
  induction l with
  | nil => rfl
  | cons x l ih => simp [back, ih]
theorem back_sum (l : List Int) (n : Int) : sm (back l n).1 - (back l n).2 = sm l - n := by
  induction l with
  | nil => simp [back, sm]
  | cons x l ih => simp only [back, sm]; omega
theorem back_two {l : List Int} {n : Int} (h : ∀ x ∈ l, 0 ≤ x) (hn : 0 ≤ n) : 0 ≤ (back l n).2 ∧ (back l n).2 ≤ n := by
  induction l with
  | nil => exact ⟨hn, Int.le_refl _⟩
  | cons x l ih =>
    have h1 := h x (by simp)
    have h2 := ih (fun y hy => h y (by simp [hy]))
    simp only [back]; omega
theorem back_nums {l : List Int} {n : Int} (h : ∀ x ∈ l, 0 ≤ x ∧ x ≤ 1000) (hn : 0 ≤ n) : ∀ x ∈ (back l n).1, 0 ≤ x ∧ x ≤ 1000 := by
  induction l with
  | nil => intro x hx; simp [back] at hx
  | cons x l ih =>
    have h1 := h x (by simp)
    have h2 := back_two (l := l) (n := n) (fun y hy => (h y (by simp [hy])).1) hn
    have h3 := ih (fun y hy => h y (by simp [hy]))
    intro y hy
    simp only [back, List.mem_cons] at hy
    rcases hy with rfl | hy
    · omega
    · exact h3 y hy
/-- What is left is no more than there is. -/
theorem back_left {l : List Int} {n : Int} (h : ∀ x ∈ l, 0 ≤ x) (hn : 0 ≤ n) : (back l n).2 = max (n - sm l) 0 := by
  induction l with
  | nil => simp [back, sm]; omega
  | cons x l ih =>
    have h1 := h x (by simp)
    have h2 := ih (fun y hy => h y (by simp [hy]))
    have h3 := sm_nn (l := l) (fun y hy => h y (by simp [hy]))
    simp only [back, sm, h2]; omega
def sized (d : Int) (p : Pt) (want : Int) : Pt :=
  if 0 ≤ want - all p then
    if d = 0 then ⟨p.ready + (want - all p), p.start, p.wait, 0⟩ else ⟨p.ready, put p.start d.toNat (want - all p), p.wait, 0⟩
  else ⟨p.ready - (back p.start (all p - want)).2, (back p.start (all p - want)).1, p.wait, 0⟩
/-- Without noughts at the end. -/
def trim : List Int → List Int
  | [] => []
  | x :: l => if trim l = [] ∧ x = 0 then [] else x :: trim l
theorem sm_trim (l : List Int) : sm (trim l) = sm l := by
  induction l with
  | nil => rfl
  | cons x l ih =>
    simp only [trim, sm]
    split
    · rename_i h
      rw [h.1] at ih
      simp only [sm] at ih ⊢
      omega
    · simp only [sm, ih]
theorem trim_snoc_zero (l : List Int) : trim (l ++ [0]) = trim l := by
  induction l with
  | nil => simp [trim]
  | cons x l ih => simp only [List.cons_append, trim, ih]
theorem trim_snoc {l : List Int} {x : Int} (h : x ≠ 0) : trim (l ++ [x]) = l ++ [x] := by
  induction l with
  | nil => simp [trim, h]
  | cons y l ih => simp only [List.cons_append, trim, ih]; rw [if_neg (fun h => by simpa using h.1)]
theorem trim_mem {l : List Int} : ∀ x ∈ trim l, x ∈ l := by
  induction l with
  | nil => intro x hx; exact hx
  | cons y l ih =>
    intro x hx
    simp only [trim] at hx
    split at hx
    · cases hx
    · rcases List.mem_cons.1 hx with rfl | hx
      · simp
      · simp [ih x hx]
theorem trim_len (l : List Int) : (trim l).length ≤ l.length := by
  induction l with
  | nil => exact Nat.le_refl _
  | cons y l ih =>
    simp only [trim]
    split
    · simp
    · simp; exact ih
def rep (n : Int) : Int := min (max n 0) 1000
/-- A step: what is left, and its mark. -/
def todo (p : Pt) (demand : Int) : Int := Fx.add p.wait (min (max demand 0) 1000000)
def can (c : Cf) (r : Int) : Int := min (r * c.cap) 1000000000
def step (c : Cf) (p : Pt) (want demand : Int) : Pt :=
  ⟨(sized c.delay (first p) (rep want)).ready, trim (sized c.delay (first p) (rep want)).start, max (todo p demand - can c (sized c.delay (first p) (rep want)).ready) 0, Fx.div (todo p demand) (can c (sized c.delay (first p) (rep want)).ready)⟩
def mark (c : Cf) (p : Pt) (want demand : Int) : Int × Bool := (all (step c p want demand), decide (c.slack < (step c p want demand).wait))
def new (n : Int) : Pt := ⟨rep n, [], 0, 0⟩
end Plt
end Go.Proofs.Ytcfehddnccdejaa
