/- The specification's writing: l1Bytes, l1Put, spec.WriteMem. -/
import Derived.Test.YthekickjjaleaaaSpec1
namespace Go.Proofs.Ythekickjjaleaaa
open Go.RowKit
set_option linter.unusedVariables false




end Go.Proofs.Ythekickjjaleaaa
