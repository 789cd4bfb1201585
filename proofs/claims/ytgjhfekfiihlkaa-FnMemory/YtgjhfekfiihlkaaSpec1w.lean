/- The specification's writing: l1Bytes, l1Put, spec.WriteMem. -/
import Derived.Test.YtgjhfekfiihlkaaSpec1
namespace Go.Proofs.Ytgjhfekfiihlkaa
open Go.RowKit
set_option linter.unusedVariables false




end Go.Proofs.Ytgjhfekfiihlkaa
