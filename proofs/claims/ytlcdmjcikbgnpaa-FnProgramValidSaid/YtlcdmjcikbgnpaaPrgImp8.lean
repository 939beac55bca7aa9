/- The landed program's five functions of chapter 8 answer as Impl8 says. Conditions: those of Impl8. -/
import Derived.Test.YtlcdmjcikbgnpaaPrgCon
import Derived.Test.YtlcdmjcikbgnpaaPrgWstP
namespace Go.Proofs.Ytlcdmjcikbgnpaa
open Go.RowKit Go.Deep

theorem impl8 : Impl8 where
  valid := fun a cap ps w hr hn => implProgramValid_any a cap ps w hr hn
  wcet := fun a cap ps w hr hn => implWcet_any a cap ps w hr hn
  bcet := fun a cap ps w hr hn => implBcet_any a cap ps w hr hn
  run := fun a cap ps v cs w hr hc hn hcn => implRunProgram_any a cap ps v cs w hr hc hn hcn
  worst := fun a cap ps w hr hn => implWorstChoices_any a cap ps w hr hn

end Go.Proofs.Ytlcdmjcikbgnpaa
