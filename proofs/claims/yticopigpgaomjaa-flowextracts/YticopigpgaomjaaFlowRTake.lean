/-
  The document's Extract of layer 9 (flow): it answers as the plain function says.
-/
import Derived.Test.YticopigpgaomjaaFlowRNone
import Derived.Test.YticopigpgaomjaaFlowRFour
import Derived.Test.YticopigpgaomjaaFlowRSix
import Derived.Deep.Cut
import Derived.Deep.CutRange
namespace Go.Proofs.Yticopigpgaomjaa
open Go.RowKit Oc Pt Fl Go.Deep
set_option linter.unusedVariables false

theorem fl_rextract (w : World) (l : List UInt8) (hl : l.length ≤ 1152921504606846976) : Calls Try.prog 11 #[.string (bsL l)] w (Gave w (ansOf l)) := by
  by_cases hm : l.length ≤ 2048
  · by_cases h0 : Et.takeE l = 0
    · by_cases h2 : (Et.frOf l).T = 2048
      · exact fl_rx_four w l hl hm ⟨h0, h2⟩
      · by_cases h3 : (Et.frOf l).T = 34525
        · exact fl_rx_six w l hl hm ⟨h0, h3⟩
        · exact fl_rx_none w l hl fun _ _ => ⟨h2, h3⟩
    · exact fl_rx_none w l hl fun _ h => absurd h h0
  · exact fl_rx_none w l hl fun h => absurd h hm
end Go.Proofs.Yticopigpgaomjaa
