/- The cells of a row of numbers. -/
import Derived.Test.YtkmdnmjbjbkpdaaLine
namespace Go.Proofs.Ytkmdnmjbjbkpdaa
open Go.RowKit

abbrev intsC (ks : List Int) (j : Nat) : Value := .int .i64 (ks.getD j 0)
end Go.Proofs.Ytkmdnmjbjbkpdaa
