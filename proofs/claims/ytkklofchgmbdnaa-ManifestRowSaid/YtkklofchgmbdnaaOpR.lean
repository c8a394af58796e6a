/- Rows of rows of numbers. -/
import Derived.Test.YtkklofchgmbdnaaDkN
namespace Go.Proofs.Ytkklofchgmbdnaa
open Go.RowKit

/-- A slice of slices of numbers that lies below block B. -/
structure Rws (w : World) (B : Nat) (a : Option Addr) (len cap : Nat) (ls : List (List Int)) : Prop where
  length : ls.length = len
  le : len ≤ cap
  max : cap ≤ maxLen
  at_ : 0 < len → ∃ b o, a = some ⟨b, o, none⟩ ∧ b < B ∧ ∀ (k : Nat) (l : List Int), ls[k]? = some l → ∃ ba bc, w.cell? ⟨b, o + k, none⟩ = some (.slice ba l.length bc) ∧ Row w B ba l.length bc 1 (intsC l)
end Go.Proofs.Ytkklofchgmbdnaa
