/-
  No cell of these rows narrows 'for every input' (looked for: loops, veiled, ifaces, maps, wideKeys, modest, calm, conditions, laid).
  DERIVED. THE GIVEN ROWS OF THIS SEAT. 12 by the template 'for every input the law returns true; each argument reads behind the call as it read before'; 0 by the template 'total and deterministic' (their statements: YtocppoobcanhiaaTotals.lean).
  GIVEN WITH THE SEED: the statements are not yours to turn. If you find one false, say at which input.
  Laid BY PROGRAM, IN A SANDBOX (cutbox-rows.mjs): the forced cells as the released guide's own fill.sh prints them over the translation 7a3ef165803b90c1… (all of the seat's roots in one cut). By AI agents, Wed Nov 11 2026. No macro, syntax, notation, axiom, sorry.
-/
import Derived.Test.YtocppoobcanhiaaChecked
import GoSem.Claim
import GoSem.ClaimJoined
import GoSem.ClaimMapViews
import Derived.JoinedTies
import Derived.KernelRfl
namespace Go.Proofs.Ytocppoobcanhiaa
/- THE CELL 'sum', in the pinned program and in every row, IS THE sha256 OF THE DUMP (.gsa) THAT YtocppoobcanhiaaProg.lean LOADS. Nothing in Lean hashes anything: it is a label: what it is worth is what the hold of that sum in a sandbox is worth. -/
noncomputable def Try.pinned : Pinned := { name := "ytocppoobcanhiaa", sum := "7a3ef165803b90c103d2618b92cd3236bc3b07118fec93a7d20dac34cb426c0d", checked := Try.checked }
namespace Rows
def none {H : Type} : Left H := { results := [], args := [] }

/-- 'laws.FnExactOrderValid': WHATEVER THE INPUT: true; the input reads as it did. -/
def fnExactOrderValidSpec : ChangeSpec := { name := "fnExactOrderValid", fn := fun _ => fun
  | [d1, d2] => { results := [.lit (.bool true)], args := [d1, d2] }
  | _ => none }
def fnExactOrderValidRow : OpenClaim := { program := "ytocppoobcanhiaa", sum := "7a3ef165803b90c103d2618b92cd3236bc3b07118fec93a7d20dac34cb426c0d", func := "loop.example/deadlinescheduler/laws.FnExactOrderValid", spec := "fnExactOrderValid", unfollowed := true, recurses := true, apart := false }
def FnExactOrderValidSaid : Prop := fnExactOrderValidRow.holds Try.pinned (OpenSpec.ofChange fnExactOrderValidSpec)

/-- ITS FALSE NEIGHBOUR: 'it returns false'. Refute it at one input. -/
def fnExactOrderValidWrong : ChangeSpec := { name := "fnExactOrderValid", fn := fun _ => fun
  | [d1, d2] => { results := [.lit (.bool false)], args := [d1, d2] }
  | _ => none }
def FnExactOrderValidWrongFalsely : Prop := fnExactOrderValidRow.holds Try.pinned (OpenSpec.ofChange fnExactOrderValidWrong)

/-- 'laws.FnExactResponseTimes': WHATEVER THE INPUT: true; the input reads as it did. -/
def fnExactResponseTimesSpec : ChangeSpec := { name := "fnExactResponseTimes", fn := fun _ => fun
  | [d1, d2] => { results := [.lit (.bool true)], args := [d1, d2] }
  | _ => none }
def fnExactResponseTimesRow : OpenClaim := { program := "ytocppoobcanhiaa", sum := "7a3ef165803b90c103d2618b92cd3236bc3b07118fec93a7d20dac34cb426c0d", func := "loop.example/deadlinescheduler/laws.FnExactResponseTimes", spec := "fnExactResponseTimes", unfollowed := true, recurses := true, apart := false }
def FnExactResponseTimesSaid : Prop := fnExactResponseTimesRow.holds Try.pinned (OpenSpec.ofChange fnExactResponseTimesSpec)

/-- ITS FALSE NEIGHBOUR: 'it returns false'. Refute it at one input. -/
def fnExactResponseTimesWrong : ChangeSpec := { name := "fnExactResponseTimes", fn := fun _ => fun
  | [d1, d2] => { results := [.lit (.bool false)], args := [d1, d2] }
  | _ => none }
def FnExactResponseTimesWrongFalsely : Prop := fnExactResponseTimesRow.holds Try.pinned (OpenSpec.ofChange fnExactResponseTimesWrong)

/-- 'laws.FnExactFixedFeasible': WHATEVER THE INPUT: true; the input reads as it did. -/
def fnExactFixedFeasibleSpec : ChangeSpec := { name := "fnExactFixedFeasible", fn := fun _ => fun
  | [d1, d2] => { results := [.lit (.bool true)], args := [d1, d2] }
  | _ => none }
def fnExactFixedFeasibleRow : OpenClaim := { program := "ytocppoobcanhiaa", sum := "7a3ef165803b90c103d2618b92cd3236bc3b07118fec93a7d20dac34cb426c0d", func := "loop.example/deadlinescheduler/laws.FnExactFixedFeasible", spec := "fnExactFixedFeasible", unfollowed := true, recurses := true, apart := false }
def FnExactFixedFeasibleSaid : Prop := fnExactFixedFeasibleRow.holds Try.pinned (OpenSpec.ofChange fnExactFixedFeasibleSpec)

/-- ITS FALSE NEIGHBOUR: 'it returns false'. Refute it at one input. -/
def fnExactFixedFeasibleWrong : ChangeSpec := { name := "fnExactFixedFeasible", fn := fun _ => fun
  | [d1, d2] => { results := [.lit (.bool false)], args := [d1, d2] }
  | _ => none }
def FnExactFixedFeasibleWrongFalsely : Prop := fnExactFixedFeasibleRow.holds Try.pinned (OpenSpec.ofChange fnExactFixedFeasibleWrong)

/-- 'laws.FnExactAssignPriorities': WHATEVER THE INPUT: true; the input reads as it did. -/
def fnExactAssignPrioritiesSpec : ChangeSpec := { name := "fnExactAssignPriorities", fn := fun _ => fun
  | [d] => { results := [.lit (.bool true)], args := [d] }
  | _ => none }
def fnExactAssignPrioritiesRow : OpenClaim := { program := "ytocppoobcanhiaa", sum := "7a3ef165803b90c103d2618b92cd3236bc3b07118fec93a7d20dac34cb426c0d", func := "loop.example/deadlinescheduler/laws.FnExactAssignPriorities", spec := "fnExactAssignPriorities", unfollowed := true, recurses := true, apart := false }
def FnExactAssignPrioritiesSaid : Prop := fnExactAssignPrioritiesRow.holds Try.pinned (OpenSpec.ofChange fnExactAssignPrioritiesSpec)

/-- ITS FALSE NEIGHBOUR: 'it returns false'. Refute it at one input. -/
def fnExactAssignPrioritiesWrong : ChangeSpec := { name := "fnExactAssignPriorities", fn := fun _ => fun
  | [d] => { results := [.lit (.bool false)], args := [d] }
  | _ => none }
def FnExactAssignPrioritiesWrongFalsely : Prop := fnExactAssignPrioritiesRow.holds Try.pinned (OpenSpec.ofChange fnExactAssignPrioritiesWrong)

/-- 'laws.FnExactDeadlineMonotonic': WHATEVER THE INPUT: true; the input reads as it did. -/
def fnExactDeadlineMonotonicSpec : ChangeSpec := { name := "fnExactDeadlineMonotonic", fn := fun _ => fun
  | [d] => { results := [.lit (.bool true)], args := [d] }
  | _ => none }
def fnExactDeadlineMonotonicRow : OpenClaim := { program := "ytocppoobcanhiaa", sum := "7a3ef165803b90c103d2618b92cd3236bc3b07118fec93a7d20dac34cb426c0d", func := "loop.example/deadlinescheduler/laws.FnExactDeadlineMonotonic", spec := "fnExactDeadlineMonotonic", unfollowed := true, recurses := true, apart := false }
def FnExactDeadlineMonotonicSaid : Prop := fnExactDeadlineMonotonicRow.holds Try.pinned (OpenSpec.ofChange fnExactDeadlineMonotonicSpec)

/-- ITS FALSE NEIGHBOUR: 'it returns false'. Refute it at one input. -/
def fnExactDeadlineMonotonicWrong : ChangeSpec := { name := "fnExactDeadlineMonotonic", fn := fun _ => fun
  | [d] => { results := [.lit (.bool false)], args := [d] }
  | _ => none }
def FnExactDeadlineMonotonicWrongFalsely : Prop := fnExactDeadlineMonotonicRow.holds Try.pinned (OpenSpec.ofChange fnExactDeadlineMonotonicWrong)

/-- 'laws.FnOrderValid': WHATEVER THE INPUT: true; the input reads as it did. -/
def fnOrderValidSpec : ChangeSpec := { name := "fnOrderValid", fn := fun _ => fun
  | [d] => { results := [.lit (.bool true)], args := [d] }
  | _ => none }
def fnOrderValidRow : OpenClaim := { program := "ytocppoobcanhiaa", sum := "7a3ef165803b90c103d2618b92cd3236bc3b07118fec93a7d20dac34cb426c0d", func := "loop.example/deadlinescheduler/laws.FnOrderValid", spec := "fnOrderValid", unfollowed := true, recurses := true, apart := false }
def FnOrderValidSaid : Prop := fnOrderValidRow.holds Try.pinned (OpenSpec.ofChange fnOrderValidSpec)

/-- ITS FALSE NEIGHBOUR: 'it returns false'. Refute it at one input. -/
def fnOrderValidWrong : ChangeSpec := { name := "fnOrderValid", fn := fun _ => fun
  | [d] => { results := [.lit (.bool false)], args := [d] }
  | _ => none }
def FnOrderValidWrongFalsely : Prop := fnOrderValidRow.holds Try.pinned (OpenSpec.ofChange fnOrderValidWrong)

/-- 'laws.FnResponseTimes': WHATEVER THE INPUT: true; the input reads as it did. -/
def fnResponseTimesSpec : ChangeSpec := { name := "fnResponseTimes", fn := fun _ => fun
  | [d] => { results := [.lit (.bool true)], args := [d] }
  | _ => none }
def fnResponseTimesRow : OpenClaim := { program := "ytocppoobcanhiaa", sum := "7a3ef165803b90c103d2618b92cd3236bc3b07118fec93a7d20dac34cb426c0d", func := "loop.example/deadlinescheduler/laws.FnResponseTimes", spec := "fnResponseTimes", unfollowed := true, recurses := true, apart := false }
def FnResponseTimesSaid : Prop := fnResponseTimesRow.holds Try.pinned (OpenSpec.ofChange fnResponseTimesSpec)

/-- ITS FALSE NEIGHBOUR: 'it returns false'. Refute it at one input. -/
def fnResponseTimesWrong : ChangeSpec := { name := "fnResponseTimes", fn := fun _ => fun
  | [d] => { results := [.lit (.bool false)], args := [d] }
  | _ => none }
def FnResponseTimesWrongFalsely : Prop := fnResponseTimesRow.holds Try.pinned (OpenSpec.ofChange fnResponseTimesWrong)

/-- 'laws.FnFixedEdf': WHATEVER THE INPUT: true; the input reads as it did. -/
def fnFixedEdfSpec : ChangeSpec := { name := "fnFixedEdf", fn := fun _ => fun
  | [d] => { results := [.lit (.bool true)], args := [d] }
  | _ => none }
def fnFixedEdfRow : OpenClaim := { program := "ytocppoobcanhiaa", sum := "7a3ef165803b90c103d2618b92cd3236bc3b07118fec93a7d20dac34cb426c0d", func := "loop.example/deadlinescheduler/laws.FnFixedEdf", spec := "fnFixedEdf", unfollowed := true, recurses := true, apart := false }
def FnFixedEdfSaid : Prop := fnFixedEdfRow.holds Try.pinned (OpenSpec.ofChange fnFixedEdfSpec)

/-- ITS FALSE NEIGHBOUR: 'it returns false'. Refute it at one input. -/
def fnFixedEdfWrong : ChangeSpec := { name := "fnFixedEdf", fn := fun _ => fun
  | [d] => { results := [.lit (.bool false)], args := [d] }
  | _ => none }
def FnFixedEdfWrongFalsely : Prop := fnFixedEdfRow.holds Try.pinned (OpenSpec.ofChange fnFixedEdfWrong)

/-- 'laws.FnAssign': WHATEVER THE INPUT: true; the input reads as it did. -/
def fnAssignSpec : ChangeSpec := { name := "fnAssign", fn := fun _ => fun
  | [d] => { results := [.lit (.bool true)], args := [d] }
  | _ => none }
def fnAssignRow : OpenClaim := { program := "ytocppoobcanhiaa", sum := "7a3ef165803b90c103d2618b92cd3236bc3b07118fec93a7d20dac34cb426c0d", func := "loop.example/deadlinescheduler/laws.FnAssign", spec := "fnAssign", unfollowed := true, recurses := true, apart := false }
def FnAssignSaid : Prop := fnAssignRow.holds Try.pinned (OpenSpec.ofChange fnAssignSpec)

/-- ITS FALSE NEIGHBOUR: 'it returns false'. Refute it at one input. -/
def fnAssignWrong : ChangeSpec := { name := "fnAssign", fn := fun _ => fun
  | [d] => { results := [.lit (.bool false)], args := [d] }
  | _ => none }
def FnAssignWrongFalsely : Prop := fnAssignRow.holds Try.pinned (OpenSpec.ofChange fnAssignWrong)

/-- 'laws.FnMonotonic': WHATEVER THE INPUT: true; the input reads as it did. -/
def fnMonotonicSpec : ChangeSpec := { name := "fnMonotonic", fn := fun _ => fun
  | [d] => { results := [.lit (.bool true)], args := [d] }
  | _ => none }
def fnMonotonicRow : OpenClaim := { program := "ytocppoobcanhiaa", sum := "7a3ef165803b90c103d2618b92cd3236bc3b07118fec93a7d20dac34cb426c0d", func := "loop.example/deadlinescheduler/laws.FnMonotonic", spec := "fnMonotonic", unfollowed := true, recurses := true, apart := false }
def FnMonotonicSaid : Prop := fnMonotonicRow.holds Try.pinned (OpenSpec.ofChange fnMonotonicSpec)

/-- ITS FALSE NEIGHBOUR: 'it returns false'. Refute it at one input. -/
def fnMonotonicWrong : ChangeSpec := { name := "fnMonotonic", fn := fun _ => fun
  | [d] => { results := [.lit (.bool false)], args := [d] }
  | _ => none }
def FnMonotonicWrongFalsely : Prop := fnMonotonicRow.holds Try.pinned (OpenSpec.ofChange fnMonotonicWrong)

/-- 'laws.FnResponsePriority': WHATEVER THE INPUT: true; the input reads as it did. -/
def fnResponsePrioritySpec : ChangeSpec := { name := "fnResponsePriority", fn := fun _ => fun
  | [d] => { results := [.lit (.bool true)], args := [d] }
  | _ => none }
def fnResponsePriorityRow : OpenClaim := { program := "ytocppoobcanhiaa", sum := "7a3ef165803b90c103d2618b92cd3236bc3b07118fec93a7d20dac34cb426c0d", func := "loop.example/deadlinescheduler/laws.FnResponsePriority", spec := "fnResponsePriority", unfollowed := true, recurses := true, apart := false }
def FnResponsePrioritySaid : Prop := fnResponsePriorityRow.holds Try.pinned (OpenSpec.ofChange fnResponsePrioritySpec)

/-- ITS FALSE NEIGHBOUR: 'it returns false'. Refute it at one input. -/
def fnResponsePriorityWrong : ChangeSpec := { name := "fnResponsePriority", fn := fun _ => fun
  | [d] => { results := [.lit (.bool false)], args := [d] }
  | _ => none }
def FnResponsePriorityWrongFalsely : Prop := fnResponsePriorityRow.holds Try.pinned (OpenSpec.ofChange fnResponsePriorityWrong)

/-- 'laws.FnResponseCost': WHATEVER THE INPUT: true; the input reads as it did. -/
def fnResponseCostSpec : ChangeSpec := { name := "fnResponseCost", fn := fun _ => fun
  | [d] => { results := [.lit (.bool true)], args := [d] }
  | _ => none }
def fnResponseCostRow : OpenClaim := { program := "ytocppoobcanhiaa", sum := "7a3ef165803b90c103d2618b92cd3236bc3b07118fec93a7d20dac34cb426c0d", func := "loop.example/deadlinescheduler/laws.FnResponseCost", spec := "fnResponseCost", unfollowed := true, recurses := true, apart := false }
def FnResponseCostSaid : Prop := fnResponseCostRow.holds Try.pinned (OpenSpec.ofChange fnResponseCostSpec)

/-- ITS FALSE NEIGHBOUR: 'it returns false'. Refute it at one input. -/
def fnResponseCostWrong : ChangeSpec := { name := "fnResponseCost", fn := fun _ => fun
  | [d] => { results := [.lit (.bool false)], args := [d] }
  | _ => none }
def FnResponseCostWrongFalsely : Prop := fnResponseCostRow.holds Try.pinned (OpenSpec.ofChange fnResponseCostWrong)

/- THE SECOND FORM. 'bulk': how many values and letters a reading holds, each counted each time it is reached (what is shared counts as often as it is met; a slice's spare places count too). A statement '..UptoSaid' is the law's where the arguments, and the package variables that the reading takes, are together of bulk at most 1048576: NARROWER than '..Said'. Prove '..Said' where nothing that the law and all that it calls make is longer than what came in: it says more and counts as full. Else prove '..UptoSaid'. A law counts once. -/
mutual
def uptoBulk {H : Type} : DataW H → Nat
  | .lit (.string bytes) => bytes.length + 1
  | .lit _ => 1
  | .nil => 1
  | .ptr d => uptoBulk d + 1
  | .slice elems spare => uptoBulkAll elems + uptoBulkAll spare + 1
  | .agg parts => uptoBulkAll parts + 1
  | .iface _ d => uptoBulk d + 1
  | .map entries => uptoBulkEntries entries + 1
  | .held _ => 1
def uptoBulkAll {H : Type} : List (DataW H) → Nat
  | [] => 0
  | d :: r => uptoBulk d + uptoBulkAll r
def uptoBulkEntries {H : Type} : List (Lit × DataW H) → Nat
  | [] => 0
  | x :: r => uptoBulkEntry x + uptoBulkEntries r
def uptoBulkEntry {H : Type} : Lit × DataW H → Nat
  | (.string bytes, d) => bytes.length + uptoBulk d + 1
  | (_, d) => uptoBulk d + 1
 end
def uptoSmall : (H : Type) → List (DataW H) → Bool := fun _ ds => decide (uptoBulkAll ds ≤ 1048576)
def OpenSpec.upto (s : _root_.Go.ChangeSpec) : _root_.Go.OpenSpec := { _root_.Go.OpenSpec.ofChange s with cond := some uptoSmall }

/-- 'laws.FnExactOrderValid', WHERE WHAT IT READS IS OF BULK AT MOST 1048576: true; the input reads as it did. -/
def fnExactOrderValidUptoRow : OpenClaim := { program := "ytocppoobcanhiaa", sum := "7a3ef165803b90c103d2618b92cd3236bc3b07118fec93a7d20dac34cb426c0d", func := "loop.example/deadlinescheduler/laws.FnExactOrderValid", spec := "fnExactOrderValid", unfollowed := true, recurses := true, apart := false, narrowed := true }
def FnExactOrderValidUptoSaid : Prop := fnExactOrderValidUptoRow.holds Try.pinned (OpenSpec.upto fnExactOrderValidSpec)

/-- 'laws.FnExactResponseTimes', WHERE WHAT IT READS IS OF BULK AT MOST 1048576: true; the input reads as it did. -/
def fnExactResponseTimesUptoRow : OpenClaim := { program := "ytocppoobcanhiaa", sum := "7a3ef165803b90c103d2618b92cd3236bc3b07118fec93a7d20dac34cb426c0d", func := "loop.example/deadlinescheduler/laws.FnExactResponseTimes", spec := "fnExactResponseTimes", unfollowed := true, recurses := true, apart := false, narrowed := true }
def FnExactResponseTimesUptoSaid : Prop := fnExactResponseTimesUptoRow.holds Try.pinned (OpenSpec.upto fnExactResponseTimesSpec)

/-- 'laws.FnExactFixedFeasible', WHERE WHAT IT READS IS OF BULK AT MOST 1048576: true; the input reads as it did. -/
def fnExactFixedFeasibleUptoRow : OpenClaim := { program := "ytocppoobcanhiaa", sum := "7a3ef165803b90c103d2618b92cd3236bc3b07118fec93a7d20dac34cb426c0d", func := "loop.example/deadlinescheduler/laws.FnExactFixedFeasible", spec := "fnExactFixedFeasible", unfollowed := true, recurses := true, apart := false, narrowed := true }
def FnExactFixedFeasibleUptoSaid : Prop := fnExactFixedFeasibleUptoRow.holds Try.pinned (OpenSpec.upto fnExactFixedFeasibleSpec)

/-- 'laws.FnExactAssignPriorities', WHERE WHAT IT READS IS OF BULK AT MOST 1048576: true; the input reads as it did. -/
def fnExactAssignPrioritiesUptoRow : OpenClaim := { program := "ytocppoobcanhiaa", sum := "7a3ef165803b90c103d2618b92cd3236bc3b07118fec93a7d20dac34cb426c0d", func := "loop.example/deadlinescheduler/laws.FnExactAssignPriorities", spec := "fnExactAssignPriorities", unfollowed := true, recurses := true, apart := false, narrowed := true }
def FnExactAssignPrioritiesUptoSaid : Prop := fnExactAssignPrioritiesUptoRow.holds Try.pinned (OpenSpec.upto fnExactAssignPrioritiesSpec)

/-- 'laws.FnExactDeadlineMonotonic', WHERE WHAT IT READS IS OF BULK AT MOST 1048576: true; the input reads as it did. -/
def fnExactDeadlineMonotonicUptoRow : OpenClaim := { program := "ytocppoobcanhiaa", sum := "7a3ef165803b90c103d2618b92cd3236bc3b07118fec93a7d20dac34cb426c0d", func := "loop.example/deadlinescheduler/laws.FnExactDeadlineMonotonic", spec := "fnExactDeadlineMonotonic", unfollowed := true, recurses := true, apart := false, narrowed := true }
def FnExactDeadlineMonotonicUptoSaid : Prop := fnExactDeadlineMonotonicUptoRow.holds Try.pinned (OpenSpec.upto fnExactDeadlineMonotonicSpec)

/-- 'laws.FnOrderValid', WHERE WHAT IT READS IS OF BULK AT MOST 1048576: true; the input reads as it did. -/
def fnOrderValidUptoRow : OpenClaim := { program := "ytocppoobcanhiaa", sum := "7a3ef165803b90c103d2618b92cd3236bc3b07118fec93a7d20dac34cb426c0d", func := "loop.example/deadlinescheduler/laws.FnOrderValid", spec := "fnOrderValid", unfollowed := true, recurses := true, apart := false, narrowed := true }
def FnOrderValidUptoSaid : Prop := fnOrderValidUptoRow.holds Try.pinned (OpenSpec.upto fnOrderValidSpec)

/-- 'laws.FnResponseTimes', WHERE WHAT IT READS IS OF BULK AT MOST 1048576: true; the input reads as it did. -/
def fnResponseTimesUptoRow : OpenClaim := { program := "ytocppoobcanhiaa", sum := "7a3ef165803b90c103d2618b92cd3236bc3b07118fec93a7d20dac34cb426c0d", func := "loop.example/deadlinescheduler/laws.FnResponseTimes", spec := "fnResponseTimes", unfollowed := true, recurses := true, apart := false, narrowed := true }
def FnResponseTimesUptoSaid : Prop := fnResponseTimesUptoRow.holds Try.pinned (OpenSpec.upto fnResponseTimesSpec)

/-- 'laws.FnFixedEdf', WHERE WHAT IT READS IS OF BULK AT MOST 1048576: true; the input reads as it did. -/
def fnFixedEdfUptoRow : OpenClaim := { program := "ytocppoobcanhiaa", sum := "7a3ef165803b90c103d2618b92cd3236bc3b07118fec93a7d20dac34cb426c0d", func := "loop.example/deadlinescheduler/laws.FnFixedEdf", spec := "fnFixedEdf", unfollowed := true, recurses := true, apart := false, narrowed := true }
def FnFixedEdfUptoSaid : Prop := fnFixedEdfUptoRow.holds Try.pinned (OpenSpec.upto fnFixedEdfSpec)

/-- 'laws.FnAssign', WHERE WHAT IT READS IS OF BULK AT MOST 1048576: true; the input reads as it did. -/
def fnAssignUptoRow : OpenClaim := { program := "ytocppoobcanhiaa", sum := "7a3ef165803b90c103d2618b92cd3236bc3b07118fec93a7d20dac34cb426c0d", func := "loop.example/deadlinescheduler/laws.FnAssign", spec := "fnAssign", unfollowed := true, recurses := true, apart := false, narrowed := true }
def FnAssignUptoSaid : Prop := fnAssignUptoRow.holds Try.pinned (OpenSpec.upto fnAssignSpec)

/-- 'laws.FnMonotonic', WHERE WHAT IT READS IS OF BULK AT MOST 1048576: true; the input reads as it did. -/
def fnMonotonicUptoRow : OpenClaim := { program := "ytocppoobcanhiaa", sum := "7a3ef165803b90c103d2618b92cd3236bc3b07118fec93a7d20dac34cb426c0d", func := "loop.example/deadlinescheduler/laws.FnMonotonic", spec := "fnMonotonic", unfollowed := true, recurses := true, apart := false, narrowed := true }
def FnMonotonicUptoSaid : Prop := fnMonotonicUptoRow.holds Try.pinned (OpenSpec.upto fnMonotonicSpec)

/-- 'laws.FnResponsePriority', WHERE WHAT IT READS IS OF BULK AT MOST 1048576: true; the input reads as it did. -/
def fnResponsePriorityUptoRow : OpenClaim := { program := "ytocppoobcanhiaa", sum := "7a3ef165803b90c103d2618b92cd3236bc3b07118fec93a7d20dac34cb426c0d", func := "loop.example/deadlinescheduler/laws.FnResponsePriority", spec := "fnResponsePriority", unfollowed := true, recurses := true, apart := false, narrowed := true }
def FnResponsePriorityUptoSaid : Prop := fnResponsePriorityUptoRow.holds Try.pinned (OpenSpec.upto fnResponsePrioritySpec)

/-- 'laws.FnResponseCost', WHERE WHAT IT READS IS OF BULK AT MOST 1048576: true; the input reads as it did. -/
def fnResponseCostUptoRow : OpenClaim := { program := "ytocppoobcanhiaa", sum := "7a3ef165803b90c103d2618b92cd3236bc3b07118fec93a7d20dac34cb426c0d", func := "loop.example/deadlinescheduler/laws.FnResponseCost", spec := "fnResponseCost", unfollowed := true, recurses := true, apart := false, narrowed := true }
def FnResponseCostUptoSaid : Prop := fnResponseCostUptoRow.holds Try.pinned (OpenSpec.upto fnResponseCostSpec)

end Rows
end Go.Proofs.Ytocppoobcanhiaa
