/- The walks over slices of bytes: toByteS, eqByteS. -/
import Derived.Test.YthekickjjaleaaaRows
import Derived.Test.YthekickjjaleaaaRows1
namespace Go.Proofs.Ythekickjjaleaaa
open Go.RowKit
set_option linter.unusedVariables false

theorem Try.infoB : (Try.prog.info? 5).map (fun i => (i.zero, i.size, i.bytes)) = some (some (.int .u8 0), 1, 1) := by kernel_rfl




end Go.Proofs.Ythekickjjaleaaa
