/-
  No cell of these rows narrows 'for every input' (looked for: loops, veiled, ifaces, maps, wideKeys, modest, calm, conditions, laid).
  DERIVED. THE GIVEN ROWS OF THIS SEAT. 12 by the template 'for every input the law returns true; each argument reads behind the call as it read before'; 0 by the template 'total and deterministic' (their statements: YtnpgndeoakignaaTotals.lean).
  GIVEN WITH THE SEED: the statements are not yours to turn. If you find one false, say at which input.
  Laid BY PROGRAM, IN A SANDBOX (cutbox-rows.mjs): the forced cells as the released guide's own fill.sh prints them over the translation 236128e3191919a9… (all of the seat's roots in one cut). By AI agents, Wed Nov 11 2026. No macro, syntax, notation, axiom, sorry.
-/
import Derived.Test.YtnpgndeoakignaaChecked
import GoSem.Claim
import GoSem.ClaimJoined
import GoSem.ClaimMapViews
import Derived.JoinedTies
import Derived.KernelRfl
namespace Go.Proofs.Ytnpgndeoakignaa
/- THE CELL 'sum', in the pinned program and in every row, IS THE sha256 OF THE DUMP (.gsa) THAT YtnpgndeoakignaaProg.lean LOADS. Nothing in Lean hashes anything: it is a label: what it is worth is what the hold of that sum in a sandbox is worth. -/
noncomputable def Try.pinned : Pinned := { name := "ytnpgndeoakignaa", sum := "236128e3191919a9597b4849bc88c4eb503e14dca69b9821555749e3f0eabfe5", checked := Try.checked }
namespace Rows
def none {H : Type} : Left H := { results := [], args := [] }

/-- 'laws.FnDemand': WHATEVER THE INPUT: true; the input reads as it did. -/
def fnDemandSpec : ChangeSpec := { name := "fnDemand", fn := fun _ => fun
  | [d] => { results := [.lit (.bool true)], args := [d] }
  | _ => none }
def fnDemandRow : OpenClaim := { program := "ytnpgndeoakignaa", sum := "236128e3191919a9597b4849bc88c4eb503e14dca69b9821555749e3f0eabfe5", func := "loop.example/deadlinescheduler/laws.FnDemand", spec := "fnDemand", unfollowed := true, recurses := true, apart := false }
def FnDemandSaid : Prop := fnDemandRow.holds Try.pinned (OpenSpec.ofChange fnDemandSpec)

/-- ITS FALSE NEIGHBOUR: 'it returns false'. Refute it at one input. -/
def fnDemandWrong : ChangeSpec := { name := "fnDemand", fn := fun _ => fun
  | [d] => { results := [.lit (.bool false)], args := [d] }
  | _ => none }
def FnDemandWrongFalsely : Prop := fnDemandRow.holds Try.pinned (OpenSpec.ofChange fnDemandWrong)

/-- 'laws.FnDemandHyper': WHATEVER THE INPUT: true; the input reads as it did. -/
def fnDemandHyperSpec : ChangeSpec := { name := "fnDemandHyper", fn := fun _ => fun
  | [d] => { results := [.lit (.bool true)], args := [d] }
  | _ => none }
def fnDemandHyperRow : OpenClaim := { program := "ytnpgndeoakignaa", sum := "236128e3191919a9597b4849bc88c4eb503e14dca69b9821555749e3f0eabfe5", func := "loop.example/deadlinescheduler/laws.FnDemandHyper", spec := "fnDemandHyper", unfollowed := true, recurses := true, apart := false }
def FnDemandHyperSaid : Prop := fnDemandHyperRow.holds Try.pinned (OpenSpec.ofChange fnDemandHyperSpec)

/-- ITS FALSE NEIGHBOUR: 'it returns false'. Refute it at one input. -/
def fnDemandHyperWrong : ChangeSpec := { name := "fnDemandHyper", fn := fun _ => fun
  | [d] => { results := [.lit (.bool false)], args := [d] }
  | _ => none }
def FnDemandHyperWrongFalsely : Prop := fnDemandHyperRow.holds Try.pinned (OpenSpec.ofChange fnDemandHyperWrong)

/-- 'laws.FnFirstOverload': WHATEVER THE INPUT: true; the input reads as it did. -/
def fnFirstOverloadSpec : ChangeSpec := { name := "fnFirstOverload", fn := fun _ => fun
  | [d] => { results := [.lit (.bool true)], args := [d] }
  | _ => none }
def fnFirstOverloadRow : OpenClaim := { program := "ytnpgndeoakignaa", sum := "236128e3191919a9597b4849bc88c4eb503e14dca69b9821555749e3f0eabfe5", func := "loop.example/deadlinescheduler/laws.FnFirstOverload", spec := "fnFirstOverload", unfollowed := true, recurses := true, apart := false }
def FnFirstOverloadSaid : Prop := fnFirstOverloadRow.holds Try.pinned (OpenSpec.ofChange fnFirstOverloadSpec)

/-- ITS FALSE NEIGHBOUR: 'it returns false'. Refute it at one input. -/
def fnFirstOverloadWrong : ChangeSpec := { name := "fnFirstOverload", fn := fun _ => fun
  | [d] => { results := [.lit (.bool false)], args := [d] }
  | _ => none }
def FnFirstOverloadWrongFalsely : Prop := fnFirstOverloadRow.holds Try.pinned (OpenSpec.ofChange fnFirstOverloadWrong)

/-- 'laws.FnEdfFeasible': WHATEVER THE INPUT: true; the input reads as it did. -/
def fnEdfFeasibleSpec : ChangeSpec := { name := "fnEdfFeasible", fn := fun _ => fun
  | [d] => { results := [.lit (.bool true)], args := [d] }
  | _ => none }
def fnEdfFeasibleRow : OpenClaim := { program := "ytnpgndeoakignaa", sum := "236128e3191919a9597b4849bc88c4eb503e14dca69b9821555749e3f0eabfe5", func := "loop.example/deadlinescheduler/laws.FnEdfFeasible", spec := "fnEdfFeasible", unfollowed := true, recurses := true, apart := false }
def FnEdfFeasibleSaid : Prop := fnEdfFeasibleRow.holds Try.pinned (OpenSpec.ofChange fnEdfFeasibleSpec)

/-- ITS FALSE NEIGHBOUR: 'it returns false'. Refute it at one input. -/
def fnEdfFeasibleWrong : ChangeSpec := { name := "fnEdfFeasible", fn := fun _ => fun
  | [d] => { results := [.lit (.bool false)], args := [d] }
  | _ => none }
def FnEdfFeasibleWrongFalsely : Prop := fnEdfFeasibleRow.holds Try.pinned (OpenSpec.ofChange fnEdfFeasibleWrong)

/-- 'laws.FnEdfImplicit': WHATEVER THE INPUT: true; the input reads as it did. -/
def fnEdfImplicitSpec : ChangeSpec := { name := "fnEdfImplicit", fn := fun _ => fun
  | [d] => { results := [.lit (.bool true)], args := [d] }
  | _ => none }
def fnEdfImplicitRow : OpenClaim := { program := "ytnpgndeoakignaa", sum := "236128e3191919a9597b4849bc88c4eb503e14dca69b9821555749e3f0eabfe5", func := "loop.example/deadlinescheduler/laws.FnEdfImplicit", spec := "fnEdfImplicit", unfollowed := true, recurses := true, apart := false }
def FnEdfImplicitSaid : Prop := fnEdfImplicitRow.holds Try.pinned (OpenSpec.ofChange fnEdfImplicitSpec)

/-- ITS FALSE NEIGHBOUR: 'it returns false'. Refute it at one input. -/
def fnEdfImplicitWrong : ChangeSpec := { name := "fnEdfImplicit", fn := fun _ => fun
  | [d] => { results := [.lit (.bool false)], args := [d] }
  | _ => none }
def FnEdfImplicitWrongFalsely : Prop := fnEdfImplicitRow.holds Try.pinned (OpenSpec.ofChange fnEdfImplicitWrong)

/-- 'laws.FnBusyPeriod': WHATEVER THE INPUT: true; the input reads as it did. -/
def fnBusyPeriodSpec : ChangeSpec := { name := "fnBusyPeriod", fn := fun _ => fun
  | [d] => { results := [.lit (.bool true)], args := [d] }
  | _ => none }
def fnBusyPeriodRow : OpenClaim := { program := "ytnpgndeoakignaa", sum := "236128e3191919a9597b4849bc88c4eb503e14dca69b9821555749e3f0eabfe5", func := "loop.example/deadlinescheduler/laws.FnBusyPeriod", spec := "fnBusyPeriod", unfollowed := true, recurses := true, apart := false }
def FnBusyPeriodSaid : Prop := fnBusyPeriodRow.holds Try.pinned (OpenSpec.ofChange fnBusyPeriodSpec)

/-- ITS FALSE NEIGHBOUR: 'it returns false'. Refute it at one input. -/
def fnBusyPeriodWrong : ChangeSpec := { name := "fnBusyPeriod", fn := fun _ => fun
  | [d] => { results := [.lit (.bool false)], args := [d] }
  | _ => none }
def FnBusyPeriodWrongFalsely : Prop := fnBusyPeriodRow.holds Try.pinned (OpenSpec.ofChange fnBusyPeriodWrong)

/-- 'laws.FnBusyEnough': WHATEVER THE INPUT: true; the input reads as it did. -/
def fnBusyEnoughSpec : ChangeSpec := { name := "fnBusyEnough", fn := fun _ => fun
  | [d] => { results := [.lit (.bool true)], args := [d] }
  | _ => none }
def fnBusyEnoughRow : OpenClaim := { program := "ytnpgndeoakignaa", sum := "236128e3191919a9597b4849bc88c4eb503e14dca69b9821555749e3f0eabfe5", func := "loop.example/deadlinescheduler/laws.FnBusyEnough", spec := "fnBusyEnough", unfollowed := true, recurses := true, apart := false }
def FnBusyEnoughSaid : Prop := fnBusyEnoughRow.holds Try.pinned (OpenSpec.ofChange fnBusyEnoughSpec)

/-- ITS FALSE NEIGHBOUR: 'it returns false'. Refute it at one input. -/
def fnBusyEnoughWrong : ChangeSpec := { name := "fnBusyEnough", fn := fun _ => fun
  | [d] => { results := [.lit (.bool false)], args := [d] }
  | _ => none }
def FnBusyEnoughWrongFalsely : Prop := fnBusyEnoughRow.holds Try.pinned (OpenSpec.ofChange fnBusyEnoughWrong)

/-- 'laws.FnDemandImplicit': WHATEVER THE INPUT: true; the input reads as it did. -/
def fnDemandImplicitSpec : ChangeSpec := { name := "fnDemandImplicit", fn := fun _ => fun
  | [d] => { results := [.lit (.bool true)], args := [d] }
  | _ => none }
def fnDemandImplicitRow : OpenClaim := { program := "ytnpgndeoakignaa", sum := "236128e3191919a9597b4849bc88c4eb503e14dca69b9821555749e3f0eabfe5", func := "loop.example/deadlinescheduler/laws.FnDemandImplicit", spec := "fnDemandImplicit", unfollowed := true, recurses := true, apart := false }
def FnDemandImplicitSaid : Prop := fnDemandImplicitRow.holds Try.pinned (OpenSpec.ofChange fnDemandImplicitSpec)

/-- ITS FALSE NEIGHBOUR: 'it returns false'. Refute it at one input. -/
def fnDemandImplicitWrong : ChangeSpec := { name := "fnDemandImplicit", fn := fun _ => fun
  | [d] => { results := [.lit (.bool false)], args := [d] }
  | _ => none }
def FnDemandImplicitWrongFalsely : Prop := fnDemandImplicitRow.holds Try.pinned (OpenSpec.ofChange fnDemandImplicitWrong)

/-- 'laws.FnExactDemand': WHATEVER THE INPUT: true; the input reads as it did. -/
def fnExactDemandSpec : ChangeSpec := { name := "fnExactDemand", fn := fun _ => fun
  | [d1, d2] => { results := [.lit (.bool true)], args := [d1, d2] }
  | _ => none }
def fnExactDemandRow : OpenClaim := { program := "ytnpgndeoakignaa", sum := "236128e3191919a9597b4849bc88c4eb503e14dca69b9821555749e3f0eabfe5", func := "loop.example/deadlinescheduler/laws.FnExactDemand", spec := "fnExactDemand", unfollowed := true, recurses := true, apart := false }
def FnExactDemandSaid : Prop := fnExactDemandRow.holds Try.pinned (OpenSpec.ofChange fnExactDemandSpec)

/-- ITS FALSE NEIGHBOUR: 'it returns false'. Refute it at one input. -/
def fnExactDemandWrong : ChangeSpec := { name := "fnExactDemand", fn := fun _ => fun
  | [d1, d2] => { results := [.lit (.bool false)], args := [d1, d2] }
  | _ => none }
def FnExactDemandWrongFalsely : Prop := fnExactDemandRow.holds Try.pinned (OpenSpec.ofChange fnExactDemandWrong)

/-- 'laws.FnExactFirstOverload': WHATEVER THE INPUT: true; the input reads as it did. -/
def fnExactFirstOverloadSpec : ChangeSpec := { name := "fnExactFirstOverload", fn := fun _ => fun
  | [d] => { results := [.lit (.bool true)], args := [d] }
  | _ => none }
def fnExactFirstOverloadRow : OpenClaim := { program := "ytnpgndeoakignaa", sum := "236128e3191919a9597b4849bc88c4eb503e14dca69b9821555749e3f0eabfe5", func := "loop.example/deadlinescheduler/laws.FnExactFirstOverload", spec := "fnExactFirstOverload", unfollowed := true, recurses := true, apart := false }
def FnExactFirstOverloadSaid : Prop := fnExactFirstOverloadRow.holds Try.pinned (OpenSpec.ofChange fnExactFirstOverloadSpec)

/-- ITS FALSE NEIGHBOUR: 'it returns false'. Refute it at one input. -/
def fnExactFirstOverloadWrong : ChangeSpec := { name := "fnExactFirstOverload", fn := fun _ => fun
  | [d] => { results := [.lit (.bool false)], args := [d] }
  | _ => none }
def FnExactFirstOverloadWrongFalsely : Prop := fnExactFirstOverloadRow.holds Try.pinned (OpenSpec.ofChange fnExactFirstOverloadWrong)

/-- 'laws.FnExactEdfFeasible': WHATEVER THE INPUT: true; the input reads as it did. -/
def fnExactEdfFeasibleSpec : ChangeSpec := { name := "fnExactEdfFeasible", fn := fun _ => fun
  | [d] => { results := [.lit (.bool true)], args := [d] }
  | _ => none }
def fnExactEdfFeasibleRow : OpenClaim := { program := "ytnpgndeoakignaa", sum := "236128e3191919a9597b4849bc88c4eb503e14dca69b9821555749e3f0eabfe5", func := "loop.example/deadlinescheduler/laws.FnExactEdfFeasible", spec := "fnExactEdfFeasible", unfollowed := true, recurses := true, apart := false }
def FnExactEdfFeasibleSaid : Prop := fnExactEdfFeasibleRow.holds Try.pinned (OpenSpec.ofChange fnExactEdfFeasibleSpec)

/-- ITS FALSE NEIGHBOUR: 'it returns false'. Refute it at one input. -/
def fnExactEdfFeasibleWrong : ChangeSpec := { name := "fnExactEdfFeasible", fn := fun _ => fun
  | [d] => { results := [.lit (.bool false)], args := [d] }
  | _ => none }
def FnExactEdfFeasibleWrongFalsely : Prop := fnExactEdfFeasibleRow.holds Try.pinned (OpenSpec.ofChange fnExactEdfFeasibleWrong)

/-- 'laws.FnExactBusyPeriod': WHATEVER THE INPUT: true; the input reads as it did. -/
def fnExactBusyPeriodSpec : ChangeSpec := { name := "fnExactBusyPeriod", fn := fun _ => fun
  | [d] => { results := [.lit (.bool true)], args := [d] }
  | _ => none }
def fnExactBusyPeriodRow : OpenClaim := { program := "ytnpgndeoakignaa", sum := "236128e3191919a9597b4849bc88c4eb503e14dca69b9821555749e3f0eabfe5", func := "loop.example/deadlinescheduler/laws.FnExactBusyPeriod", spec := "fnExactBusyPeriod", unfollowed := true, recurses := true, apart := false }
def FnExactBusyPeriodSaid : Prop := fnExactBusyPeriodRow.holds Try.pinned (OpenSpec.ofChange fnExactBusyPeriodSpec)

/-- ITS FALSE NEIGHBOUR: 'it returns false'. Refute it at one input. -/
def fnExactBusyPeriodWrong : ChangeSpec := { name := "fnExactBusyPeriod", fn := fun _ => fun
  | [d] => { results := [.lit (.bool false)], args := [d] }
  | _ => none }
def FnExactBusyPeriodWrongFalsely : Prop := fnExactBusyPeriodRow.holds Try.pinned (OpenSpec.ofChange fnExactBusyPeriodWrong)

/- THE SECOND FORM. 'bulk': how many values and letters a reading holds, each counted each time it is reached (what is shared counts as often as it is met; a slice's spare places count too). A statement '..UptoSaid' is the law's where the arguments, and the package variables that the reading takes, are together of bulk at most 1048576: NARROWER than '..Said'. Prove '..Said' where nothing that the law and all that it calls make is longer than what came in: it says more and counts as full. Else prove '..UptoSaid'. A law counts once. -/
mutual
def uptoBulk {H : Type} : DataW H → Nat
  | .lit (.string bytes) => bytes.length + 1
  | .lit _ => 1
  | .nil => 1
  | .ptr d => uptoBulk d + 1
  | .slice elems spare => uptoBulkAll elems + uptoBulkAll spare + 1
  | .agg parts => uptoBulkAll parts + 1
  | .iface _ d => uptoBulk d + 1
  | .map entries => uptoBulkEntries entries + 1
  | .held _ => 1
def uptoBulkAll {H : Type} : List (DataW H) → Nat
  | [] => 0
  | d :: r => uptoBulk d + uptoBulkAll r
def uptoBulkEntries {H : Type} : List (Lit × DataW H) → Nat
  | [] => 0
  | x :: r => uptoBulkEntry x + uptoBulkEntries r
def uptoBulkEntry {H : Type} : Lit × DataW H → Nat
  | (.string bytes, d) => bytes.length + uptoBulk d + 1
  | (_, d) => uptoBulk d + 1
 end
def uptoSmall : (H : Type) → List (DataW H) → Bool := fun _ ds => decide (uptoBulkAll ds ≤ 1048576)
def OpenSpec.upto (s : _root_.Go.ChangeSpec) : _root_.Go.OpenSpec := { _root_.Go.OpenSpec.ofChange s with cond := some uptoSmall }

/-- 'laws.FnDemand', WHERE WHAT IT READS IS OF BULK AT MOST 1048576: true; the input reads as it did. -/
def fnDemandUptoRow : OpenClaim := { program := "ytnpgndeoakignaa", sum := "236128e3191919a9597b4849bc88c4eb503e14dca69b9821555749e3f0eabfe5", func := "loop.example/deadlinescheduler/laws.FnDemand", spec := "fnDemand", unfollowed := true, recurses := true, apart := false, narrowed := true }
def FnDemandUptoSaid : Prop := fnDemandUptoRow.holds Try.pinned (OpenSpec.upto fnDemandSpec)

/-- 'laws.FnDemandHyper', WHERE WHAT IT READS IS OF BULK AT MOST 1048576: true; the input reads as it did. -/
def fnDemandHyperUptoRow : OpenClaim := { program := "ytnpgndeoakignaa", sum := "236128e3191919a9597b4849bc88c4eb503e14dca69b9821555749e3f0eabfe5", func := "loop.example/deadlinescheduler/laws.FnDemandHyper", spec := "fnDemandHyper", unfollowed := true, recurses := true, apart := false, narrowed := true }
def FnDemandHyperUptoSaid : Prop := fnDemandHyperUptoRow.holds Try.pinned (OpenSpec.upto fnDemandHyperSpec)

/-- 'laws.FnFirstOverload', WHERE WHAT IT READS IS OF BULK AT MOST 1048576: true; the input reads as it did. -/
def fnFirstOverloadUptoRow : OpenClaim := { program := "ytnpgndeoakignaa", sum := "236128e3191919a9597b4849bc88c4eb503e14dca69b9821555749e3f0eabfe5", func := "loop.example/deadlinescheduler/laws.FnFirstOverload", spec := "fnFirstOverload", unfollowed := true, recurses := true, apart := false, narrowed := true }
def FnFirstOverloadUptoSaid : Prop := fnFirstOverloadUptoRow.holds Try.pinned (OpenSpec.upto fnFirstOverloadSpec)

/-- 'laws.FnEdfFeasible', WHERE WHAT IT READS IS OF BULK AT MOST 1048576: true; the input reads as it did. -/
def fnEdfFeasibleUptoRow : OpenClaim := { program := "ytnpgndeoakignaa", sum := "236128e3191919a9597b4849bc88c4eb503e14dca69b9821555749e3f0eabfe5", func := "loop.example/deadlinescheduler/laws.FnEdfFeasible", spec := "fnEdfFeasible", unfollowed := true, recurses := true, apart := false, narrowed := true }
def FnEdfFeasibleUptoSaid : Prop := fnEdfFeasibleUptoRow.holds Try.pinned (OpenSpec.upto fnEdfFeasibleSpec)

/-- 'laws.FnEdfImplicit', WHERE WHAT IT READS IS OF BULK AT MOST 1048576: true; the input reads as it did. -/
def fnEdfImplicitUptoRow : OpenClaim := { program := "ytnpgndeoakignaa", sum := "236128e3191919a9597b4849bc88c4eb503e14dca69b9821555749e3f0eabfe5", func := "loop.example/deadlinescheduler/laws.FnEdfImplicit", spec := "fnEdfImplicit", unfollowed := true, recurses := true, apart := false, narrowed := true }
def FnEdfImplicitUptoSaid : Prop := fnEdfImplicitUptoRow.holds Try.pinned (OpenSpec.upto fnEdfImplicitSpec)

/-- 'laws.FnBusyPeriod', WHERE WHAT IT READS IS OF BULK AT MOST 1048576: true; the input reads as it did. -/
def fnBusyPeriodUptoRow : OpenClaim := { program := "ytnpgndeoakignaa", sum := "236128e3191919a9597b4849bc88c4eb503e14dca69b9821555749e3f0eabfe5", func := "loop.example/deadlinescheduler/laws.FnBusyPeriod", spec := "fnBusyPeriod", unfollowed := true, recurses := true, apart := false, narrowed := true }
def FnBusyPeriodUptoSaid : Prop := fnBusyPeriodUptoRow.holds Try.pinned (OpenSpec.upto fnBusyPeriodSpec)

/-- 'laws.FnBusyEnough', WHERE WHAT IT READS IS OF BULK AT MOST 1048576: true; the input reads as it did. -/
def fnBusyEnoughUptoRow : OpenClaim := { program := "ytnpgndeoakignaa", sum := "236128e3191919a9597b4849bc88c4eb503e14dca69b9821555749e3f0eabfe5", func := "loop.example/deadlinescheduler/laws.FnBusyEnough", spec := "fnBusyEnough", unfollowed := true, recurses := true, apart := false, narrowed := true }
def FnBusyEnoughUptoSaid : Prop := fnBusyEnoughUptoRow.holds Try.pinned (OpenSpec.upto fnBusyEnoughSpec)

/-- 'laws.FnDemandImplicit', WHERE WHAT IT READS IS OF BULK AT MOST 1048576: true; the input reads as it did. -/
def fnDemandImplicitUptoRow : OpenClaim := { program := "ytnpgndeoakignaa", sum := "236128e3191919a9597b4849bc88c4eb503e14dca69b9821555749e3f0eabfe5", func := "loop.example/deadlinescheduler/laws.FnDemandImplicit", spec := "fnDemandImplicit", unfollowed := true, recurses := true, apart := false, narrowed := true }
def FnDemandImplicitUptoSaid : Prop := fnDemandImplicitUptoRow.holds Try.pinned (OpenSpec.upto fnDemandImplicitSpec)

/-- 'laws.FnExactDemand', WHERE WHAT IT READS IS OF BULK AT MOST 1048576: true; the input reads as it did. -/
def fnExactDemandUptoRow : OpenClaim := { program := "ytnpgndeoakignaa", sum := "236128e3191919a9597b4849bc88c4eb503e14dca69b9821555749e3f0eabfe5", func := "loop.example/deadlinescheduler/laws.FnExactDemand", spec := "fnExactDemand", unfollowed := true, recurses := true, apart := false, narrowed := true }
def FnExactDemandUptoSaid : Prop := fnExactDemandUptoRow.holds Try.pinned (OpenSpec.upto fnExactDemandSpec)

/-- 'laws.FnExactFirstOverload', WHERE WHAT IT READS IS OF BULK AT MOST 1048576: true; the input reads as it did. -/
def fnExactFirstOverloadUptoRow : OpenClaim := { program := "ytnpgndeoakignaa", sum := "236128e3191919a9597b4849bc88c4eb503e14dca69b9821555749e3f0eabfe5", func := "loop.example/deadlinescheduler/laws.FnExactFirstOverload", spec := "fnExactFirstOverload", unfollowed := true, recurses := true, apart := false, narrowed := true }
def FnExactFirstOverloadUptoSaid : Prop := fnExactFirstOverloadUptoRow.holds Try.pinned (OpenSpec.upto fnExactFirstOverloadSpec)

/-- 'laws.FnExactEdfFeasible', WHERE WHAT IT READS IS OF BULK AT MOST 1048576: true; the input reads as it did. -/
def fnExactEdfFeasibleUptoRow : OpenClaim := { program := "ytnpgndeoakignaa", sum := "236128e3191919a9597b4849bc88c4eb503e14dca69b9821555749e3f0eabfe5", func := "loop.example/deadlinescheduler/laws.FnExactEdfFeasible", spec := "fnExactEdfFeasible", unfollowed := true, recurses := true, apart := false, narrowed := true }
def FnExactEdfFeasibleUptoSaid : Prop := fnExactEdfFeasibleUptoRow.holds Try.pinned (OpenSpec.upto fnExactEdfFeasibleSpec)

/-- 'laws.FnExactBusyPeriod', WHERE WHAT IT READS IS OF BULK AT MOST 1048576: true; the input reads as it did. -/
def fnExactBusyPeriodUptoRow : OpenClaim := { program := "ytnpgndeoakignaa", sum := "236128e3191919a9597b4849bc88c4eb503e14dca69b9821555749e3f0eabfe5", func := "loop.example/deadlinescheduler/laws.FnExactBusyPeriod", spec := "fnExactBusyPeriod", unfollowed := true, recurses := true, apart := false, narrowed := true }
def FnExactBusyPeriodUptoSaid : Prop := fnExactBusyPeriodUptoRow.holds Try.pinned (OpenSpec.upto fnExactBusyPeriodSpec)

end Rows
end Go.Proofs.Ytnpgndeoakignaa
