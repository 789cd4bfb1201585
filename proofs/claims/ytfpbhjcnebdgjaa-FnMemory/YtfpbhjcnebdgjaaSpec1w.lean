/- The specification's writing: l1Bytes, l1Put, spec.WriteMem. -/
import Derived.Test.YtfpbhjcnebdgjaaSpec1
namespace Go.Proofs.Ytfpbhjcnebdgjaa
open Go.RowKit
set_option linter.unusedVariables false




end Go.Proofs.Ytfpbhjcnebdgjaa
