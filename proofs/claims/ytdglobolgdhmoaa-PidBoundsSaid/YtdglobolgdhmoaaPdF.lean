/- Rows of numbers, from any of their worlds on; the variable of a state in a loop. -/
import Derived.Test.YtdglobolgdhmoaaPdE
import Derived.Test.YtdglobolgdhmoaaInts
namespace Go.Proofs.Ytdglobolgdhmoaa
set_option linter.unusedSimpArgs false
set_option linter.unusedVariables false
open Go.RowKit
open Fx Pd

abbrev i32C (ks : List Int) (j : Nat) : Value := .int .i32 (ks.getD j 0)
theorem rcell {w x : World} {a : Option Addr} {n c : Nat} {cs : Nat → Value} (h : Row w w.heap.size a n c 1 cs) (hb : Below w.heap.size w x) {k : Nat} (hk : k < n) :
    ∃ b o, a = some ⟨b, o, none⟩ ∧ b < x.heap.size ∧ x.cell? ⟨b, o + k, none⟩ = some (cs k) := by
  obtain ⟨b, o, e, hlt, hc⟩ := h.at_ (by omega)
  exact ⟨b, o, e, Nat.lt_of_lt_of_le hlt hb.size, (hb.cell (p := ⟨b, o + k, none⟩) hlt).trans (hc k (by omega))⟩
/-- What a variable of a state is behind a store. -/
theorem StAt.set {w : World} {g : Nat} {s e : Int} {h : Bool} (k : StAt w g s e h) (s2 e2 : Int) (h2 : Bool) : StAt (w.setCells g 0 [.int .i64 s2, .int .i64 e2, .bool h2]) g s2 e2 h2 :=
  heap_setCells_whole (cs := [Value.int .i64 s, .int .i64 e, .bool h]) [.int .i64 s2, .int .i64 e2, .bool h2] rfl k
theorem StAt.there {w : World} {g : Nat} {s e : Int} {h : Bool} (k : StAt w g s e h) : w.there g 0 3 := there_of_block k (by simp)
theorem heap_setCells_far (g q : Nat) (h : g ≠ q) : ∀ (vs : List Value) (o : Nat) (w : World), (w.setCells q o vs).heap[g]? = w.heap[g]?
  | [], _, _ => rfl
  | v :: r, o, w => by
    show ((w.setCell ⟨q, o, none⟩ v).setCells q (o + 1) r).heap[g]? = _
    rw [heap_setCells_far g q h r (o + 1)]
    exact Below.heap_setCell w ⟨q, o, none⟩ v g h
theorem StAt.set_other {w : World} {g q : Nat} {s e : Int} {h : Bool} (k : StAt w g s e h) (hne : g ≠ q) (vs : List Value) : StAt (w.setCells q 0 vs) g s e h :=
  (heap_setCells_far g q hne vs 0 w).trans k
/-- A variable of a policy. -/
def PolAt (w : World) (g : Nat) (P : Array Value) : Prop := w.heap[g]? = some (.cells P 30 (0, 0))
theorem PolAt.on {w x : World} {g : Nat} {P : Array Value} (k : PolAt w g P) (hb : Below w.heap.size w x) : PolAt x g P := (hb.block g (lt_of_heap k)).trans k
theorem PolAt.far {w : World} {g q : Nat} {P : Array Value} (k : PolAt w g P) (hne : g ≠ q) (vs : List Value) : PolAt (w.setCells q 0 vs) g P := (heap_setCells_far g q hne vs 0 w).trans k
theorem chg_zero (h : Bool) : chg h 0 0 = 0 := by cases h <;> decide
end Go.Proofs.Ytdglobolgdhmoaa
