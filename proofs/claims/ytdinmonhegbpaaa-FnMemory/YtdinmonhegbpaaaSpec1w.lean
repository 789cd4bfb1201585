/- The specification's writing: l1Bytes, l1Put, spec.WriteMem. -/
import Derived.Test.YtdinmonhegbpaaaSpec1
namespace Go.Proofs.Ytdinmonhegbpaaa
open Go.RowKit
set_option linter.unusedVariables false




end Go.Proofs.Ytdinmonhegbpaaa
