/-
  No cell of these rows narrows 'for every input' (looked for: loops, veiled, ifaces, maps, wideKeys, modest, calm, conditions, laid).
  DERIVED. THE GIVEN ROWS OF THIS SEAT. 9 by the template 'for every input the law returns true; each argument reads behind the call as it read before'; 0 by the template 'total and deterministic' (their statements: YtcpgpioophlaoaaTotals.lean).
  GIVEN WITH THE SEED: the statements are not yours to turn. If you find one false, say at which input.
  Laid BY PROGRAM, IN A SANDBOX (cutbox-rows.mjs): the forced cells as the released guide's own fill.sh prints them over the translation 0f1085275b335d4d… (all of the seat's roots in one cut). By AI agents, Wed Nov 11 2026. No macro, syntax, notation, axiom, sorry.
-/
import Derived.Test.YtcpgpioophlaoaaChecked
import GoSem.Claim
import GoSem.ClaimJoined
import GoSem.ClaimMapViews
import Derived.JoinedTies
import Derived.KernelRfl
namespace Go.Proofs.Ytcpgpioophlaoaa
/- THE CELL 'sum', in the pinned program and in every row, IS THE sha256 OF THE DUMP (.gsa) THAT YtcpgpioophlaoaaProg.lean LOADS. Nothing in Lean hashes anything: it is a label: what it is worth is what the hold of that sum in a sandbox is worth. -/
noncomputable def Try.pinned : Pinned := { name := "ytcpgpioophlaoaa", sum := "0f1085275b335d4db667c5faad2a221a9862aa2517a61c5f490e67ffd9f21898", checked := Try.checked }
namespace Rows
def none {H : Type} : Left H := { results := [], args := [] }

/-- 'laws.FnTaskValid': WHATEVER THE INPUT: true; the input reads as it did. -/
def fnTaskValidSpec : ChangeSpec := { name := "fnTaskValid", fn := fun _ => fun
  | [d] => { results := [.lit (.bool true)], args := [d] }
  | _ => none }
def fnTaskValidRow : OpenClaim := { program := "ytcpgpioophlaoaa", sum := "0f1085275b335d4db667c5faad2a221a9862aa2517a61c5f490e67ffd9f21898", func := "loop.example/deadlinescheduler/laws.FnTaskValid", spec := "fnTaskValid", apart := false }
def FnTaskValidSaid : Prop := fnTaskValidRow.holds Try.pinned (OpenSpec.ofChange fnTaskValidSpec)

/-- ITS FALSE NEIGHBOUR: 'it returns false'. Refute it at one input. -/
def fnTaskValidWrong : ChangeSpec := { name := "fnTaskValid", fn := fun _ => fun
  | [d] => { results := [.lit (.bool false)], args := [d] }
  | _ => none }
def FnTaskValidWrongFalsely : Prop := fnTaskValidRow.holds Try.pinned (OpenSpec.ofChange fnTaskValidWrong)

/-- 'laws.FnSetValid': WHATEVER THE INPUT: true; the input reads as it did. -/
def fnSetValidSpec : ChangeSpec := { name := "fnSetValid", fn := fun _ => fun
  | [d] => { results := [.lit (.bool true)], args := [d] }
  | _ => none }
def fnSetValidRow : OpenClaim := { program := "ytcpgpioophlaoaa", sum := "0f1085275b335d4db667c5faad2a221a9862aa2517a61c5f490e67ffd9f21898", func := "loop.example/deadlinescheduler/laws.FnSetValid", spec := "fnSetValid", unfollowed := true, recurses := true, apart := false }
def FnSetValidSaid : Prop := fnSetValidRow.holds Try.pinned (OpenSpec.ofChange fnSetValidSpec)

/-- ITS FALSE NEIGHBOUR: 'it returns false'. Refute it at one input. -/
def fnSetValidWrong : ChangeSpec := { name := "fnSetValid", fn := fun _ => fun
  | [d] => { results := [.lit (.bool false)], args := [d] }
  | _ => none }
def FnSetValidWrongFalsely : Prop := fnSetValidRow.holds Try.pinned (OpenSpec.ofChange fnSetValidWrong)

/-- 'laws.FnHyperperiod': WHATEVER THE INPUT: true; the input reads as it did. -/
def fnHyperperiodSpec : ChangeSpec := { name := "fnHyperperiod", fn := fun _ => fun
  | [d] => { results := [.lit (.bool true)], args := [d] }
  | _ => none }
def fnHyperperiodRow : OpenClaim := { program := "ytcpgpioophlaoaa", sum := "0f1085275b335d4db667c5faad2a221a9862aa2517a61c5f490e67ffd9f21898", func := "loop.example/deadlinescheduler/laws.FnHyperperiod", spec := "fnHyperperiod", unfollowed := true, recurses := true, apart := false }
def FnHyperperiodSaid : Prop := fnHyperperiodRow.holds Try.pinned (OpenSpec.ofChange fnHyperperiodSpec)

/-- ITS FALSE NEIGHBOUR: 'it returns false'. Refute it at one input. -/
def fnHyperperiodWrong : ChangeSpec := { name := "fnHyperperiod", fn := fun _ => fun
  | [d] => { results := [.lit (.bool false)], args := [d] }
  | _ => none }
def FnHyperperiodWrongFalsely : Prop := fnHyperperiodRow.holds Try.pinned (OpenSpec.ofChange fnHyperperiodWrong)

/-- 'laws.FnUtilization': WHATEVER THE INPUT: true; the input reads as it did. -/
def fnUtilizationSpec : ChangeSpec := { name := "fnUtilization", fn := fun _ => fun
  | [d] => { results := [.lit (.bool true)], args := [d] }
  | _ => none }
def fnUtilizationRow : OpenClaim := { program := "ytcpgpioophlaoaa", sum := "0f1085275b335d4db667c5faad2a221a9862aa2517a61c5f490e67ffd9f21898", func := "loop.example/deadlinescheduler/laws.FnUtilization", spec := "fnUtilization", unfollowed := true, recurses := true, apart := false }
def FnUtilizationSaid : Prop := fnUtilizationRow.holds Try.pinned (OpenSpec.ofChange fnUtilizationSpec)

/-- ITS FALSE NEIGHBOUR: 'it returns false'. Refute it at one input. -/
def fnUtilizationWrong : ChangeSpec := { name := "fnUtilization", fn := fun _ => fun
  | [d] => { results := [.lit (.bool false)], args := [d] }
  | _ => none }
def FnUtilizationWrongFalsely : Prop := fnUtilizationRow.holds Try.pinned (OpenSpec.ofChange fnUtilizationWrong)

/-- 'laws.FnHyperSubset': WHATEVER THE INPUT: true; the input reads as it did. -/
def fnHyperSubsetSpec : ChangeSpec := { name := "fnHyperSubset", fn := fun _ => fun
  | [d] => { results := [.lit (.bool true)], args := [d] }
  | _ => none }
def fnHyperSubsetRow : OpenClaim := { program := "ytcpgpioophlaoaa", sum := "0f1085275b335d4db667c5faad2a221a9862aa2517a61c5f490e67ffd9f21898", func := "loop.example/deadlinescheduler/laws.FnHyperSubset", spec := "fnHyperSubset", unfollowed := true, recurses := true, apart := false }
def FnHyperSubsetSaid : Prop := fnHyperSubsetRow.holds Try.pinned (OpenSpec.ofChange fnHyperSubsetSpec)

/-- ITS FALSE NEIGHBOUR: 'it returns false'. Refute it at one input. -/
def fnHyperSubsetWrong : ChangeSpec := { name := "fnHyperSubset", fn := fun _ => fun
  | [d] => { results := [.lit (.bool false)], args := [d] }
  | _ => none }
def FnHyperSubsetWrongFalsely : Prop := fnHyperSubsetRow.holds Try.pinned (OpenSpec.ofChange fnHyperSubsetWrong)

/-- 'laws.FnExactTaskValid': WHATEVER THE INPUT: true; the input reads as it did. -/
def fnExactTaskValidSpec : ChangeSpec := { name := "fnExactTaskValid", fn := fun _ => fun
  | [d] => { results := [.lit (.bool true)], args := [d] }
  | _ => none }
def fnExactTaskValidRow : OpenClaim := { program := "ytcpgpioophlaoaa", sum := "0f1085275b335d4db667c5faad2a221a9862aa2517a61c5f490e67ffd9f21898", func := "loop.example/deadlinescheduler/laws.FnExactTaskValid", spec := "fnExactTaskValid", apart := false }
def FnExactTaskValidSaid : Prop := fnExactTaskValidRow.holds Try.pinned (OpenSpec.ofChange fnExactTaskValidSpec)

/-- ITS FALSE NEIGHBOUR: 'it returns false'. Refute it at one input. -/
def fnExactTaskValidWrong : ChangeSpec := { name := "fnExactTaskValid", fn := fun _ => fun
  | [d] => { results := [.lit (.bool false)], args := [d] }
  | _ => none }
def FnExactTaskValidWrongFalsely : Prop := fnExactTaskValidRow.holds Try.pinned (OpenSpec.ofChange fnExactTaskValidWrong)

/-- 'laws.FnExactSetValid': WHATEVER THE INPUT: true; the input reads as it did. -/
def fnExactSetValidSpec : ChangeSpec := { name := "fnExactSetValid", fn := fun _ => fun
  | [d] => { results := [.lit (.bool true)], args := [d] }
  | _ => none }
def fnExactSetValidRow : OpenClaim := { program := "ytcpgpioophlaoaa", sum := "0f1085275b335d4db667c5faad2a221a9862aa2517a61c5f490e67ffd9f21898", func := "loop.example/deadlinescheduler/laws.FnExactSetValid", spec := "fnExactSetValid", unfollowed := true, recurses := true, apart := false }
def FnExactSetValidSaid : Prop := fnExactSetValidRow.holds Try.pinned (OpenSpec.ofChange fnExactSetValidSpec)

/-- ITS FALSE NEIGHBOUR: 'it returns false'. Refute it at one input. -/
def fnExactSetValidWrong : ChangeSpec := { name := "fnExactSetValid", fn := fun _ => fun
  | [d] => { results := [.lit (.bool false)], args := [d] }
  | _ => none }
def FnExactSetValidWrongFalsely : Prop := fnExactSetValidRow.holds Try.pinned (OpenSpec.ofChange fnExactSetValidWrong)

/-- 'laws.FnExactHyperperiod': WHATEVER THE INPUT: true; the input reads as it did. -/
def fnExactHyperperiodSpec : ChangeSpec := { name := "fnExactHyperperiod", fn := fun _ => fun
  | [d] => { results := [.lit (.bool true)], args := [d] }
  | _ => none }
def fnExactHyperperiodRow : OpenClaim := { program := "ytcpgpioophlaoaa", sum := "0f1085275b335d4db667c5faad2a221a9862aa2517a61c5f490e67ffd9f21898", func := "loop.example/deadlinescheduler/laws.FnExactHyperperiod", spec := "fnExactHyperperiod", unfollowed := true, recurses := true, apart := false }
def FnExactHyperperiodSaid : Prop := fnExactHyperperiodRow.holds Try.pinned (OpenSpec.ofChange fnExactHyperperiodSpec)

/-- ITS FALSE NEIGHBOUR: 'it returns false'. Refute it at one input. -/
def fnExactHyperperiodWrong : ChangeSpec := { name := "fnExactHyperperiod", fn := fun _ => fun
  | [d] => { results := [.lit (.bool false)], args := [d] }
  | _ => none }
def FnExactHyperperiodWrongFalsely : Prop := fnExactHyperperiodRow.holds Try.pinned (OpenSpec.ofChange fnExactHyperperiodWrong)

/-- 'laws.FnExactUtilization': WHATEVER THE INPUT: true; the input reads as it did. -/
def fnExactUtilizationSpec : ChangeSpec := { name := "fnExactUtilization", fn := fun _ => fun
  | [d] => { results := [.lit (.bool true)], args := [d] }
  | _ => none }
def fnExactUtilizationRow : OpenClaim := { program := "ytcpgpioophlaoaa", sum := "0f1085275b335d4db667c5faad2a221a9862aa2517a61c5f490e67ffd9f21898", func := "loop.example/deadlinescheduler/laws.FnExactUtilization", spec := "fnExactUtilization", unfollowed := true, recurses := true, apart := false }
def FnExactUtilizationSaid : Prop := fnExactUtilizationRow.holds Try.pinned (OpenSpec.ofChange fnExactUtilizationSpec)

/-- ITS FALSE NEIGHBOUR: 'it returns false'. Refute it at one input. -/
def fnExactUtilizationWrong : ChangeSpec := { name := "fnExactUtilization", fn := fun _ => fun
  | [d] => { results := [.lit (.bool false)], args := [d] }
  | _ => none }
def FnExactUtilizationWrongFalsely : Prop := fnExactUtilizationRow.holds Try.pinned (OpenSpec.ofChange fnExactUtilizationWrong)

/- THE SECOND FORM. 'bulk': how many values and letters a reading holds, each counted each time it is reached (what is shared counts as often as it is met; a slice's spare places count too). A statement '..UptoSaid' is the law's where the arguments, and the package variables that the reading takes, are together of bulk at most 1048576: NARROWER than '..Said'. Prove '..Said' where nothing that the law and all that it calls make is longer than what came in: it says more and counts as full. Else prove '..UptoSaid'. A law counts once. -/
mutual
def uptoBulk {H : Type} : DataW H → Nat
  | .lit (.string bytes) => bytes.length + 1
  | .lit _ => 1
  | .nil => 1
  | .ptr d => uptoBulk d + 1
  | .slice elems spare => uptoBulkAll elems + uptoBulkAll spare + 1
  | .agg parts => uptoBulkAll parts + 1
  | .iface _ d => uptoBulk d + 1
  | .map entries => uptoBulkEntries entries + 1
  | .held _ => 1
def uptoBulkAll {H : Type} : List (DataW H) → Nat
  | [] => 0
  | d :: r => uptoBulk d + uptoBulkAll r
def uptoBulkEntries {H : Type} : List (Lit × DataW H) → Nat
  | [] => 0
  | x :: r => uptoBulkEntry x + uptoBulkEntries r
def uptoBulkEntry {H : Type} : Lit × DataW H → Nat
  | (.string bytes, d) => bytes.length + uptoBulk d + 1
  | (_, d) => uptoBulk d + 1
 end
def uptoSmall : (H : Type) → List (DataW H) → Bool := fun _ ds => decide (uptoBulkAll ds ≤ 1048576)
def OpenSpec.upto (s : _root_.Go.ChangeSpec) : _root_.Go.OpenSpec := { _root_.Go.OpenSpec.ofChange s with cond := some uptoSmall }

/-- 'laws.FnTaskValid', WHERE WHAT IT READS IS OF BULK AT MOST 1048576: true; the input reads as it did. -/
def fnTaskValidUptoRow : OpenClaim := { program := "ytcpgpioophlaoaa", sum := "0f1085275b335d4db667c5faad2a221a9862aa2517a61c5f490e67ffd9f21898", func := "loop.example/deadlinescheduler/laws.FnTaskValid", spec := "fnTaskValid", apart := false, narrowed := true }
def FnTaskValidUptoSaid : Prop := fnTaskValidUptoRow.holds Try.pinned (OpenSpec.upto fnTaskValidSpec)

/-- 'laws.FnSetValid', WHERE WHAT IT READS IS OF BULK AT MOST 1048576: true; the input reads as it did. -/
def fnSetValidUptoRow : OpenClaim := { program := "ytcpgpioophlaoaa", sum := "0f1085275b335d4db667c5faad2a221a9862aa2517a61c5f490e67ffd9f21898", func := "loop.example/deadlinescheduler/laws.FnSetValid", spec := "fnSetValid", unfollowed := true, recurses := true, apart := false, narrowed := true }
def FnSetValidUptoSaid : Prop := fnSetValidUptoRow.holds Try.pinned (OpenSpec.upto fnSetValidSpec)

/-- 'laws.FnHyperperiod', WHERE WHAT IT READS IS OF BULK AT MOST 1048576: true; the input reads as it did. -/
def fnHyperperiodUptoRow : OpenClaim := { program := "ytcpgpioophlaoaa", sum := "0f1085275b335d4db667c5faad2a221a9862aa2517a61c5f490e67ffd9f21898", func := "loop.example/deadlinescheduler/laws.FnHyperperiod", spec := "fnHyperperiod", unfollowed := true, recurses := true, apart := false, narrowed := true }
def FnHyperperiodUptoSaid : Prop := fnHyperperiodUptoRow.holds Try.pinned (OpenSpec.upto fnHyperperiodSpec)

/-- 'laws.FnUtilization', WHERE WHAT IT READS IS OF BULK AT MOST 1048576: true; the input reads as it did. -/
def fnUtilizationUptoRow : OpenClaim := { program := "ytcpgpioophlaoaa", sum := "0f1085275b335d4db667c5faad2a221a9862aa2517a61c5f490e67ffd9f21898", func := "loop.example/deadlinescheduler/laws.FnUtilization", spec := "fnUtilization", unfollowed := true, recurses := true, apart := false, narrowed := true }
def FnUtilizationUptoSaid : Prop := fnUtilizationUptoRow.holds Try.pinned (OpenSpec.upto fnUtilizationSpec)

/-- 'laws.FnHyperSubset', WHERE WHAT IT READS IS OF BULK AT MOST 1048576: true; the input reads as it did. -/
def fnHyperSubsetUptoRow : OpenClaim := { program := "ytcpgpioophlaoaa", sum := "0f1085275b335d4db667c5faad2a221a9862aa2517a61c5f490e67ffd9f21898", func := "loop.example/deadlinescheduler/laws.FnHyperSubset", spec := "fnHyperSubset", unfollowed := true, recurses := true, apart := false, narrowed := true }
def FnHyperSubsetUptoSaid : Prop := fnHyperSubsetUptoRow.holds Try.pinned (OpenSpec.upto fnHyperSubsetSpec)

/-- 'laws.FnExactTaskValid', WHERE WHAT IT READS IS OF BULK AT MOST 1048576: true; the input reads as it did. -/
def fnExactTaskValidUptoRow : OpenClaim := { program := "ytcpgpioophlaoaa", sum := "0f1085275b335d4db667c5faad2a221a9862aa2517a61c5f490e67ffd9f21898", func := "loop.example/deadlinescheduler/laws.FnExactTaskValid", spec := "fnExactTaskValid", apart := false, narrowed := true }
def FnExactTaskValidUptoSaid : Prop := fnExactTaskValidUptoRow.holds Try.pinned (OpenSpec.upto fnExactTaskValidSpec)

/-- 'laws.FnExactSetValid', WHERE WHAT IT READS IS OF BULK AT MOST 1048576: true; the input reads as it did. -/
def fnExactSetValidUptoRow : OpenClaim := { program := "ytcpgpioophlaoaa", sum := "0f1085275b335d4db667c5faad2a221a9862aa2517a61c5f490e67ffd9f21898", func := "loop.example/deadlinescheduler/laws.FnExactSetValid", spec := "fnExactSetValid", unfollowed := true, recurses := true, apart := false, narrowed := true }
def FnExactSetValidUptoSaid : Prop := fnExactSetValidUptoRow.holds Try.pinned (OpenSpec.upto fnExactSetValidSpec)

/-- 'laws.FnExactHyperperiod', WHERE WHAT IT READS IS OF BULK AT MOST 1048576: true; the input reads as it did. -/
def fnExactHyperperiodUptoRow : OpenClaim := { program := "ytcpgpioophlaoaa", sum := "0f1085275b335d4db667c5faad2a221a9862aa2517a61c5f490e67ffd9f21898", func := "loop.example/deadlinescheduler/laws.FnExactHyperperiod", spec := "fnExactHyperperiod", unfollowed := true, recurses := true, apart := false, narrowed := true }
def FnExactHyperperiodUptoSaid : Prop := fnExactHyperperiodUptoRow.holds Try.pinned (OpenSpec.upto fnExactHyperperiodSpec)

/-- 'laws.FnExactUtilization', WHERE WHAT IT READS IS OF BULK AT MOST 1048576: true; the input reads as it did. -/
def fnExactUtilizationUptoRow : OpenClaim := { program := "ytcpgpioophlaoaa", sum := "0f1085275b335d4db667c5faad2a221a9862aa2517a61c5f490e67ffd9f21898", func := "loop.example/deadlinescheduler/laws.FnExactUtilization", spec := "fnExactUtilization", unfollowed := true, recurses := true, apart := false, narrowed := true }
def FnExactUtilizationUptoSaid : Prop := fnExactUtilizationUptoRow.holds Try.pinned (OpenSpec.upto fnExactUtilizationSpec)

end Rows
end Go.Proofs.Ytcpgpioophlaoaa
