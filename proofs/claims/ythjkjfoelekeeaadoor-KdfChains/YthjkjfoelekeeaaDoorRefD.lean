/- The walks over the document's words and block. -/
import Derived.Test.YthjkjfoelekeeaaDoorRefC
namespace Go.Proofs.YthjkjfoelekeeaaDoor
set_option linter.unusedVariables false
open Go.RowKit

theorem Tryd.infoU64 : (Tryd.prog.info? 47).map (fun i => (i.zero, i.size, i.bytes)) = some (some (.int .u64 0), 1, 8) := by kernel_rfl

end Go.Proofs.YthjkjfoelekeeaaDoor
