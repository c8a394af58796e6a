/- A boxed frame, kept through a walk. -/
import Derived.Test.YtcmgefccihehkaaFrH
namespace Go.Proofs.Ytcmgefccihehkaa
open Go.RowKit
open Crc Frm

/-- A frame that was boxed. -/
structure One (w w' : World) (f : Fr) (a : Option Addr) (ca : Nat) : Prop where
  below : Below w.heap.size w w'
  one : w'.heap[w.heap.size]? = some (.cells #[.int .i64 f.ty, .int .i64 f.seq, .slice a f.body.length ca] 24 (0, 0))
theorem One.on {w w1 w2 : World} {f : Fr} {a : Option Addr} {ca : Nat} (h : One w w1 f a ca) (hb : Below w1.heap.size w1 w2) : One w w2 f a ca :=
  ⟨h.below.trans (hb.mono h.below.size), (hb.block _ (lt_of_heap h.one)).trans h.one⟩
theorem One.start (w : World) (f : Fr) (a : Option Addr) (ca : Nat) : One w (w.alloc (.cells #[.int .i64 f.ty, .int .i64 f.seq, .slice a f.body.length ca] 24)) f a ca :=
  ⟨(Below.refl _ _).alloc (Nat.le_refl _) _, heap_alloc_new _ _⟩
theorem One.cells {w w' : World} {f : Fr} {a : Option Addr} {ca : Nat} (h : One w w' f a ca) :
    w'.cell? ⟨w.heap.size, 0, none⟩ = some (.int .i64 f.ty) ∧ w'.cell? ⟨w.heap.size, 1, none⟩ = some (.int .i64 f.seq) ∧ w'.cell? ⟨w.heap.size, 2, none⟩ = some (.slice a f.body.length ca) :=
  ⟨(cell_of_row w' _ 0 _ _ _ h.one).trans rfl, (cell_of_row w' _ 1 _ _ _ h.one).trans rfl, (cell_of_row w' _ 2 _ _ _ h.one).trans rfl⟩
/-- Behind any one block more. -/
theorem One.cells' {w w' : World} {f : Fr} {a : Option Addr} {ca : Nat} (h : One w w' f a ca) :
    (∀ o, (w'.alloc o).cell? ⟨w.heap.size, 0, none⟩ = some (.int .i64 f.ty)) ∧ (∀ o, (w'.alloc o).cell? ⟨w.heap.size, 1, none⟩ = some (.int .i64 f.seq)) ∧ (∀ o, (w'.alloc o).cell? ⟨w.heap.size, 2, none⟩ = some (.slice a f.body.length ca)) :=
  ⟨fun o => (h.on ((Below.refl _ w').alloc (Nat.le_refl _) o)).cells.1, fun o => (h.on ((Below.refl _ w').alloc (Nat.le_refl _) o)).cells.2.1, fun o => (h.on ((Below.refl _ w').alloc (Nat.le_refl _) o)).cells.2.2⟩
theorem One.sl {w w' : World} {f : Fr} {a : Option Addr} {ca : Nat} (h : One w w' f a ca) (hs : Sl w w.heap.size a f.body.length ca f.body) : Sl w' w'.heap.size a f.body.length ca f.body :=
  (hs.below h.below (Nat.le_refl _)).more h.below.size
theorem min2_any (x y : Nat) (w : World) :
    (Builtin.min_ #[3, 3] 3 #[.int .i64 (x : Int), .int .i64 (y : Int)]).run Try.prog w = .ok (.int .i64 ((min x y : Nat) : Int)) w := by
  have e1 : (if (y : Int) < (x : Int) then (y : Int) else (x : Int)) = ((min x y : Nat) : Int) := by split <;> omega
  simp only [Builtin.min_, List.foldlM, Builtin.min2, Sem.run_bind, Sem.run_pure, Result.andThen_ok]
  rw [e1]

end Go.Proofs.Ytcmgefccihehkaa
