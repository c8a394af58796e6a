/- A byte takes one cell. -/
import Derived.Test.YtiiellclnmakpaaDoorOwn
import Derived.Test.YtiiellclnmakpaaDoorProg
import Derived.Test.YtiiellclnmakpaaDoorChecked
namespace Go.Proofs.YtiiellclnmakpaaDoor
open Go.RowKit
theorem info_u8 : (Tryd.prog.info? 5).map (fun i => (i.zero, i.size, i.bytes)) = some (some (.int .u8 0), 1, 1) := by kernel_rfl
end Go.Proofs.YtiiellclnmakpaaDoor
