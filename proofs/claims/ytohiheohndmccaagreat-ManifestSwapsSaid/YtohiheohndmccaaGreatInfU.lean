/- A byte takes one cell. -/
import Derived.Test.YtohiheohndmccaaGreatOwn
import Derived.Test.YtohiheohndmccaaGreatProg
import Derived.Test.YtohiheohndmccaaGreatChecked
namespace Go.Proofs.YtohiheohndmccaaGreat
open Go.RowKit
theorem info_u8 : (Tryz.prog.info? 5).map (fun i => (i.zero, i.size, i.bytes)) = some (some (.int .u8 0), 1, 1) := by kernel_rfl
end Go.Proofs.YtohiheohndmccaaGreat
