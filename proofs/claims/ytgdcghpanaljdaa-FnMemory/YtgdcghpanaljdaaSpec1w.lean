/- The specification's writing: l1Bytes, l1Put, spec.WriteMem. -/
import Derived.Test.YtgdcghpanaljdaaSpec1
namespace Go.Proofs.Ytgdcghpanaljdaa
open Go.RowKit
set_option linter.unusedVariables false




end Go.Proofs.Ytgdcghpanaljdaa
