/- The cells of a row of numbers. -/
import Derived.Test.YtnpakjdgcmbcnaaLine
namespace Go.Proofs.Ytnpakjdgcmbcnaa
open Go.RowKit

abbrev intsC (ks : List Int) (j : Nat) : Value := .int .i64 (ks.getD j 0)
abbrev i64V (l : List Int) : List Value := l.map fun x => .int .i64 x
end Go.Proofs.Ytnpakjdgcmbcnaa
