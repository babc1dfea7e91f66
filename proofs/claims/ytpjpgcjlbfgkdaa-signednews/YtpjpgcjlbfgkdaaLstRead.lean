
/-
  Right, cell, Get and alike of layer 11 (least): what they answer.
-/
import Derived.Test.YtpjpgcjlbfgkdaaLstMem
import Derived.BigQuiet
namespace Go.Proofs.Ytpjpgcjlbfgkdaa
open Go.RowKit Fm Bl Lt L2 Go.Deep
set_option linter.unusedVariables false

end Go.Proofs.Ytpjpgcjlbfgkdaa
