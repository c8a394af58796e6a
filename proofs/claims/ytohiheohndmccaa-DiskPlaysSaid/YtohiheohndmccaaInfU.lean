/- A byte takes one cell. -/
import Derived.Test.YtohiheohndmccaaOwn
import Derived.Test.YtohiheohndmccaaProg
import Derived.Test.YtohiheohndmccaaChecked
namespace Go.Proofs.Ytohiheohndmccaa
open Go.RowKit
theorem info_u8 : (Try.prog.info? 5).map (fun i => (i.zero, i.size, i.bytes)) = some (some (.int .u8 0), 1, 1) := by kernel_rfl
end Go.Proofs.Ytohiheohndmccaa
