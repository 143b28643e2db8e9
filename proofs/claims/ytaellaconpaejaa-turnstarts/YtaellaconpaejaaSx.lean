/- A config of one domain, with one task. -/
import Derived.Test.YtaellaconpaejaaNf
set_option linter.unusedVariables false
namespace Go.Proofs.Ytaellaconpaejaa
open Go.RowKit

/-- A config of one domain, with one task. -/
def oneC : Conf := ⟨1, 1, 1, 10, 4, [(0, 100)], [], [], [(0, 50, 40, 30)]⟩

theorem one_ck : ckC oneC = 0 := by decide

end Go.Proofs.Ytaellaconpaejaa
