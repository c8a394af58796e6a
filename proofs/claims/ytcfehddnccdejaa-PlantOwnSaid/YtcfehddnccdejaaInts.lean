/- The cells of a row of numbers. -/
import Derived.Test.YtcfehddnccdejaaLine
namespace Go.Proofs.Ytcfehddnccdejaa
set_option linter.unusedSimpArgs false
set_option linter.unusedVariables false
open Go.RowKit

abbrev intsC (ks : List Int) (j : Nat) : Value := .int .i64 (ks.getD j 0)
abbrev i64V (l : List Int) : List Value := l.map fun x => .int .i64 x
end Go.Proofs.Ytcfehddnccdejaa
