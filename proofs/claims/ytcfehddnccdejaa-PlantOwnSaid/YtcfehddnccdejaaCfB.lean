/- Boxes of configurations. -/
import Derived.Test.YtcfehddnccdejaaRowG
import Derived.Test.YtcfehddnccdejaaPrw
namespace Go.Proofs.Ytcfehddnccdejaa
set_option linter.unusedSimpArgs false
set_option linter.unusedVariables false
open Go.RowKit
open Wir Evn

/-- A box of a configuration. -/
def CBx (w : World) (g : Nat) (c : Cf) : Prop := w.heap[g]? = some (.cells #[.int .i64 c.min, .int .i64 c.max, .int .i64 c.rate, .int .i64 c.stable, .int .i64 c.cap, .int .i64 c.delay, .int .i64 c.slack, .int .i64 c.window, .int .i64 c.margin, .int .i64 c.ceil, .int .i64 c.probe, .int .i64 c.breach] 23 (0, 0))
theorem CBx.on {w x : World} {g : Nat} {c : Cf} (k : CBx w g c) (hb : Below w.heap.size w x) : CBx x g c := (hb.block g (lt_of_heap k)).trans k
theorem CBx.far {w : World} {g q : Nat} {c : Cf} (k : CBx w g c) (hne : g ≠ q) (vs : List Value) : CBx (w.setCells q 0 vs) g c := (far_cells g q hne vs 0 w).trans k
end Go.Proofs.Ytcfehddnccdejaa
