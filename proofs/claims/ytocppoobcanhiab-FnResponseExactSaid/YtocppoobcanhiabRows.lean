/-
  No cell of these rows narrows 'for every input' (looked for: loops, veiled, ifaces, maps, wideKeys, modest, calm, conditions, laid).
  DERIVED. THE GIVEN ROWS OF THIS SEAT. 10 by the template 'for every input the law returns true; each argument reads behind the call as it read before'; 0 by the template 'total and deterministic' (their statements: YtocppoobcanhiabTotals.lean).
  GIVEN WITH THE SEED: the statements are not yours to turn. If you find one false, say at which input.
  Laid BY PROGRAM, IN A SANDBOX (cutbox-rows.mjs): the forced cells as the released guide's own fill.sh prints them over the translation ea2d1ea9f2be5c02… (all of the seat's roots in one cut). By AI agents, Wed Nov 11 2026. No macro, syntax, notation, axiom, sorry.
-/
import Derived.Test.YtocppoobcanhiabChecked
import GoSem.Claim
import GoSem.ClaimJoined
import GoSem.ClaimMapViews
import Derived.JoinedTies
import Derived.KernelRfl
namespace Go.Proofs.Ytocppoobcanhiab
/- THE CELL 'sum', in the pinned program and in every row, IS THE sha256 OF THE DUMP (.gsa) THAT YtocppoobcanhiabProg.lean LOADS. Nothing in Lean hashes anything: it is a label: what it is worth is what the hold of that sum in a sandbox is worth. -/
noncomputable def Try.pinned : Pinned := { name := "ytocppoobcanhiab", sum := "ea2d1ea9f2be5c0287063d21eab2404733f3f13cb330441f5e7adfe3f98ed944", checked := Try.checked }
namespace Rows
def none {H : Type} : Left H := { results := [], args := [] }

/-- 'laws.FnExactRunFixed': WHATEVER THE INPUT: true; the input reads as it did. -/
def fnExactRunFixedSpec : ChangeSpec := { name := "fnExactRunFixed", fn := fun _ => fun
  | [d1, d2, d3] => { results := [.lit (.bool true)], args := [d1, d2, d3] }
  | _ => none }
def fnExactRunFixedRow : OpenClaim := { program := "ytocppoobcanhiab", sum := "ea2d1ea9f2be5c0287063d21eab2404733f3f13cb330441f5e7adfe3f98ed944", func := "loop.example/deadlinescheduler/laws.FnExactRunFixed", spec := "fnExactRunFixed", unfollowed := true, recurses := true, apart := false }
def FnExactRunFixedSaid : Prop := fnExactRunFixedRow.holds Try.pinned (OpenSpec.ofChange fnExactRunFixedSpec)

/-- ITS FALSE NEIGHBOUR: 'it returns false'. Refute it at one input. -/
def fnExactRunFixedWrong : ChangeSpec := { name := "fnExactRunFixed", fn := fun _ => fun
  | [d1, d2, d3] => { results := [.lit (.bool false)], args := [d1, d2, d3] }
  | _ => none }
def FnExactRunFixedWrongFalsely : Prop := fnExactRunFixedRow.holds Try.pinned (OpenSpec.ofChange fnExactRunFixedWrong)

/-- 'laws.FnEdfExact': WHATEVER THE INPUT: true; the input reads as it did. -/
def fnEdfExactSpec : ChangeSpec := { name := "fnEdfExact", fn := fun _ => fun
  | [d] => { results := [.lit (.bool true)], args := [d] }
  | _ => none }
def fnEdfExactRow : OpenClaim := { program := "ytocppoobcanhiab", sum := "ea2d1ea9f2be5c0287063d21eab2404733f3f13cb330441f5e7adfe3f98ed944", func := "loop.example/deadlinescheduler/laws.FnEdfExact", spec := "fnEdfExact", unfollowed := true, recurses := true, apart := false }
def FnEdfExactSaid : Prop := fnEdfExactRow.holds Try.pinned (OpenSpec.ofChange fnEdfExactSpec)

/-- ITS FALSE NEIGHBOUR: 'it returns false'. Refute it at one input. -/
def fnEdfExactWrong : ChangeSpec := { name := "fnEdfExact", fn := fun _ => fun
  | [d] => { results := [.lit (.bool false)], args := [d] }
  | _ => none }
def FnEdfExactWrongFalsely : Prop := fnEdfExactRow.holds Try.pinned (OpenSpec.ofChange fnEdfExactWrong)

/-- 'laws.FnEdfOptimal': WHATEVER THE INPUT: true; the input reads as it did. -/
def fnEdfOptimalSpec : ChangeSpec := { name := "fnEdfOptimal", fn := fun _ => fun
  | [d] => { results := [.lit (.bool true)], args := [d] }
  | _ => none }
def fnEdfOptimalRow : OpenClaim := { program := "ytocppoobcanhiab", sum := "ea2d1ea9f2be5c0287063d21eab2404733f3f13cb330441f5e7adfe3f98ed944", func := "loop.example/deadlinescheduler/laws.FnEdfOptimal", spec := "fnEdfOptimal", unfollowed := true, recurses := true, apart := false }
def FnEdfOptimalSaid : Prop := fnEdfOptimalRow.holds Try.pinned (OpenSpec.ofChange fnEdfOptimalSpec)

/-- ITS FALSE NEIGHBOUR: 'it returns false'. Refute it at one input. -/
def fnEdfOptimalWrong : ChangeSpec := { name := "fnEdfOptimal", fn := fun _ => fun
  | [d] => { results := [.lit (.bool false)], args := [d] }
  | _ => none }
def FnEdfOptimalWrongFalsely : Prop := fnEdfOptimalRow.holds Try.pinned (OpenSpec.ofChange fnEdfOptimalWrong)

/-- 'laws.FnResponseExact': WHATEVER THE INPUT: true; the input reads as it did. -/
def fnResponseExactSpec : ChangeSpec := { name := "fnResponseExact", fn := fun _ => fun
  | [d] => { results := [.lit (.bool true)], args := [d] }
  | _ => none }
def fnResponseExactRow : OpenClaim := { program := "ytocppoobcanhiab", sum := "ea2d1ea9f2be5c0287063d21eab2404733f3f13cb330441f5e7adfe3f98ed944", func := "loop.example/deadlinescheduler/laws.FnResponseExact", spec := "fnResponseExact", unfollowed := true, recurses := true, apart := false }
def FnResponseExactSaid : Prop := fnResponseExactRow.holds Try.pinned (OpenSpec.ofChange fnResponseExactSpec)

/-- ITS FALSE NEIGHBOUR: 'it returns false'. Refute it at one input. -/
def fnResponseExactWrong : ChangeSpec := { name := "fnResponseExact", fn := fun _ => fun
  | [d] => { results := [.lit (.bool false)], args := [d] }
  | _ => none }
def FnResponseExactWrongFalsely : Prop := fnResponseExactRow.holds Try.pinned (OpenSpec.ofChange fnResponseExactWrong)

/-- 'laws.FnFixedSafe': WHATEVER THE INPUT: true; the input reads as it did. -/
def fnFixedSafeSpec : ChangeSpec := { name := "fnFixedSafe", fn := fun _ => fun
  | [d] => { results := [.lit (.bool true)], args := [d] }
  | _ => none }
def fnFixedSafeRow : OpenClaim := { program := "ytocppoobcanhiab", sum := "ea2d1ea9f2be5c0287063d21eab2404733f3f13cb330441f5e7adfe3f98ed944", func := "loop.example/deadlinescheduler/laws.FnFixedSafe", spec := "fnFixedSafe", unfollowed := true, recurses := true, apart := false }
def FnFixedSafeSaid : Prop := fnFixedSafeRow.holds Try.pinned (OpenSpec.ofChange fnFixedSafeSpec)

/-- ITS FALSE NEIGHBOUR: 'it returns false'. Refute it at one input. -/
def fnFixedSafeWrong : ChangeSpec := { name := "fnFixedSafe", fn := fun _ => fun
  | [d] => { results := [.lit (.bool false)], args := [d] }
  | _ => none }
def FnFixedSafeWrongFalsely : Prop := fnFixedSafeRow.holds Try.pinned (OpenSpec.ofChange fnFixedSafeWrong)

/-- 'laws.FnRunFixed': WHATEVER THE INPUT: true; the input reads as it did. -/
def fnRunFixedSpec : ChangeSpec := { name := "fnRunFixed", fn := fun _ => fun
  | [d] => { results := [.lit (.bool true)], args := [d] }
  | _ => none }
def fnRunFixedRow : OpenClaim := { program := "ytocppoobcanhiab", sum := "ea2d1ea9f2be5c0287063d21eab2404733f3f13cb330441f5e7adfe3f98ed944", func := "loop.example/deadlinescheduler/laws.FnRunFixed", spec := "fnRunFixed", unfollowed := true, recurses := true, apart := false }
def FnRunFixedSaid : Prop := fnRunFixedRow.holds Try.pinned (OpenSpec.ofChange fnRunFixedSpec)

/-- ITS FALSE NEIGHBOUR: 'it returns false'. Refute it at one input. -/
def fnRunFixedWrong : ChangeSpec := { name := "fnRunFixed", fn := fun _ => fun
  | [d] => { results := [.lit (.bool false)], args := [d] }
  | _ => none }
def FnRunFixedWrongFalsely : Prop := fnRunFixedRow.holds Try.pinned (OpenSpec.ofChange fnRunFixedWrong)

/-- 'laws.FnFixedChoice': WHATEVER THE INPUT: true; the input reads as it did. -/
def fnFixedChoiceSpec : ChangeSpec := { name := "fnFixedChoice", fn := fun _ => fun
  | [d] => { results := [.lit (.bool true)], args := [d] }
  | _ => none }
def fnFixedChoiceRow : OpenClaim := { program := "ytocppoobcanhiab", sum := "ea2d1ea9f2be5c0287063d21eab2404733f3f13cb330441f5e7adfe3f98ed944", func := "loop.example/deadlinescheduler/laws.FnFixedChoice", spec := "fnFixedChoice", unfollowed := true, recurses := true, apart := false }
def FnFixedChoiceSaid : Prop := fnFixedChoiceRow.holds Try.pinned (OpenSpec.ofChange fnFixedChoiceSpec)

/-- ITS FALSE NEIGHBOUR: 'it returns false'. Refute it at one input. -/
def fnFixedChoiceWrong : ChangeSpec := { name := "fnFixedChoice", fn := fun _ => fun
  | [d] => { results := [.lit (.bool false)], args := [d] }
  | _ => none }
def FnFixedChoiceWrongFalsely : Prop := fnFixedChoiceRow.holds Try.pinned (OpenSpec.ofChange fnFixedChoiceWrong)

/-- 'laws.FnBusyPeriod': WHATEVER THE INPUT: true; the input reads as it did. -/
def fnBusyPeriodSpec : ChangeSpec := { name := "fnBusyPeriod", fn := fun _ => fun
  | [d] => { results := [.lit (.bool true)], args := [d] }
  | _ => none }
def fnBusyPeriodRow : OpenClaim := { program := "ytocppoobcanhiab", sum := "ea2d1ea9f2be5c0287063d21eab2404733f3f13cb330441f5e7adfe3f98ed944", func := "loop.example/deadlinescheduler/laws.FnBusyPeriod", spec := "fnBusyPeriod", unfollowed := true, recurses := true, apart := false }
def FnBusyPeriodSaid : Prop := fnBusyPeriodRow.holds Try.pinned (OpenSpec.ofChange fnBusyPeriodSpec)

/-- ITS FALSE NEIGHBOUR: 'it returns false'. Refute it at one input. -/
def fnBusyPeriodWrong : ChangeSpec := { name := "fnBusyPeriod", fn := fun _ => fun
  | [d] => { results := [.lit (.bool false)], args := [d] }
  | _ => none }
def FnBusyPeriodWrongFalsely : Prop := fnBusyPeriodRow.holds Try.pinned (OpenSpec.ofChange fnBusyPeriodWrong)

/-- 'laws.FnBusyEnough': WHATEVER THE INPUT: true; the input reads as it did. -/
def fnBusyEnoughSpec : ChangeSpec := { name := "fnBusyEnough", fn := fun _ => fun
  | [d] => { results := [.lit (.bool true)], args := [d] }
  | _ => none }
def fnBusyEnoughRow : OpenClaim := { program := "ytocppoobcanhiab", sum := "ea2d1ea9f2be5c0287063d21eab2404733f3f13cb330441f5e7adfe3f98ed944", func := "loop.example/deadlinescheduler/laws.FnBusyEnough", spec := "fnBusyEnough", unfollowed := true, recurses := true, apart := false }
def FnBusyEnoughSaid : Prop := fnBusyEnoughRow.holds Try.pinned (OpenSpec.ofChange fnBusyEnoughSpec)

/-- ITS FALSE NEIGHBOUR: 'it returns false'. Refute it at one input. -/
def fnBusyEnoughWrong : ChangeSpec := { name := "fnBusyEnough", fn := fun _ => fun
  | [d] => { results := [.lit (.bool false)], args := [d] }
  | _ => none }
def FnBusyEnoughWrongFalsely : Prop := fnBusyEnoughRow.holds Try.pinned (OpenSpec.ofChange fnBusyEnoughWrong)

/-- 'laws.FnExactBusyPeriod': WHATEVER THE INPUT: true; the input reads as it did. -/
def fnExactBusyPeriodSpec : ChangeSpec := { name := "fnExactBusyPeriod", fn := fun _ => fun
  | [d] => { results := [.lit (.bool true)], args := [d] }
  | _ => none }
def fnExactBusyPeriodRow : OpenClaim := { program := "ytocppoobcanhiab", sum := "ea2d1ea9f2be5c0287063d21eab2404733f3f13cb330441f5e7adfe3f98ed944", func := "loop.example/deadlinescheduler/laws.FnExactBusyPeriod", spec := "fnExactBusyPeriod", unfollowed := true, recurses := true, apart := false }
def FnExactBusyPeriodSaid : Prop := fnExactBusyPeriodRow.holds Try.pinned (OpenSpec.ofChange fnExactBusyPeriodSpec)

/-- ITS FALSE NEIGHBOUR: 'it returns false'. Refute it at one input. -/
def fnExactBusyPeriodWrong : ChangeSpec := { name := "fnExactBusyPeriod", fn := fun _ => fun
  | [d] => { results := [.lit (.bool false)], args := [d] }
  | _ => none }
def FnExactBusyPeriodWrongFalsely : Prop := fnExactBusyPeriodRow.holds Try.pinned (OpenSpec.ofChange fnExactBusyPeriodWrong)

/- THE SECOND FORM. 'bulk': how many values and letters a reading holds, each counted each time it is reached (what is shared counts as often as it is met; a slice's spare places count too). A statement '..UptoSaid' is the law's where the arguments, and the package variables that the reading takes, are together of bulk at most 1048576: NARROWER than '..Said'. Prove '..Said' where nothing that the law and all that it calls make is longer than what came in: it says more and counts as full. Else prove '..UptoSaid'. A law counts once. -/
mutual
def uptoBulk {H : Type} : DataW H → Nat
  | .lit (.string bytes) => bytes.length + 1
  | .lit _ => 1
  | .nil => 1
  | .ptr d => uptoBulk d + 1
  | .slice elems spare => uptoBulkAll elems + uptoBulkAll spare + 1
  | .agg parts => uptoBulkAll parts + 1
  | .iface _ d => uptoBulk d + 1
  | .map entries => uptoBulkEntries entries + 1
  | .held _ => 1
def uptoBulkAll {H : Type} : List (DataW H) → Nat
  | [] => 0
  | d :: r => uptoBulk d + uptoBulkAll r
def uptoBulkEntries {H : Type} : List (Lit × DataW H) → Nat
  | [] => 0
  | x :: r => uptoBulkEntry x + uptoBulkEntries r
def uptoBulkEntry {H : Type} : Lit × DataW H → Nat
  | (.string bytes, d) => bytes.length + uptoBulk d + 1
  | (_, d) => uptoBulk d + 1
 end
def uptoSmall : (H : Type) → List (DataW H) → Bool := fun _ ds => decide (uptoBulkAll ds ≤ 1048576)
def OpenSpec.upto (s : _root_.Go.ChangeSpec) : _root_.Go.OpenSpec := { _root_.Go.OpenSpec.ofChange s with cond := some uptoSmall }

/-- 'laws.FnExactRunFixed', WHERE WHAT IT READS IS OF BULK AT MOST 1048576: true; the input reads as it did. -/
def fnExactRunFixedUptoRow : OpenClaim := { program := "ytocppoobcanhiab", sum := "ea2d1ea9f2be5c0287063d21eab2404733f3f13cb330441f5e7adfe3f98ed944", func := "loop.example/deadlinescheduler/laws.FnExactRunFixed", spec := "fnExactRunFixed", unfollowed := true, recurses := true, apart := false, narrowed := true }
def FnExactRunFixedUptoSaid : Prop := fnExactRunFixedUptoRow.holds Try.pinned (OpenSpec.upto fnExactRunFixedSpec)

/-- 'laws.FnEdfExact', WHERE WHAT IT READS IS OF BULK AT MOST 1048576: true; the input reads as it did. -/
def fnEdfExactUptoRow : OpenClaim := { program := "ytocppoobcanhiab", sum := "ea2d1ea9f2be5c0287063d21eab2404733f3f13cb330441f5e7adfe3f98ed944", func := "loop.example/deadlinescheduler/laws.FnEdfExact", spec := "fnEdfExact", unfollowed := true, recurses := true, apart := false, narrowed := true }
def FnEdfExactUptoSaid : Prop := fnEdfExactUptoRow.holds Try.pinned (OpenSpec.upto fnEdfExactSpec)

/-- 'laws.FnEdfOptimal', WHERE WHAT IT READS IS OF BULK AT MOST 1048576: true; the input reads as it did. -/
def fnEdfOptimalUptoRow : OpenClaim := { program := "ytocppoobcanhiab", sum := "ea2d1ea9f2be5c0287063d21eab2404733f3f13cb330441f5e7adfe3f98ed944", func := "loop.example/deadlinescheduler/laws.FnEdfOptimal", spec := "fnEdfOptimal", unfollowed := true, recurses := true, apart := false, narrowed := true }
def FnEdfOptimalUptoSaid : Prop := fnEdfOptimalUptoRow.holds Try.pinned (OpenSpec.upto fnEdfOptimalSpec)

/-- 'laws.FnResponseExact', WHERE WHAT IT READS IS OF BULK AT MOST 1048576: true; the input reads as it did. -/
def fnResponseExactUptoRow : OpenClaim := { program := "ytocppoobcanhiab", sum := "ea2d1ea9f2be5c0287063d21eab2404733f3f13cb330441f5e7adfe3f98ed944", func := "loop.example/deadlinescheduler/laws.FnResponseExact", spec := "fnResponseExact", unfollowed := true, recurses := true, apart := false, narrowed := true }
def FnResponseExactUptoSaid : Prop := fnResponseExactUptoRow.holds Try.pinned (OpenSpec.upto fnResponseExactSpec)

/-- 'laws.FnFixedSafe', WHERE WHAT IT READS IS OF BULK AT MOST 1048576: true; the input reads as it did. -/
def fnFixedSafeUptoRow : OpenClaim := { program := "ytocppoobcanhiab", sum := "ea2d1ea9f2be5c0287063d21eab2404733f3f13cb330441f5e7adfe3f98ed944", func := "loop.example/deadlinescheduler/laws.FnFixedSafe", spec := "fnFixedSafe", unfollowed := true, recurses := true, apart := false, narrowed := true }
def FnFixedSafeUptoSaid : Prop := fnFixedSafeUptoRow.holds Try.pinned (OpenSpec.upto fnFixedSafeSpec)

/-- 'laws.FnRunFixed', WHERE WHAT IT READS IS OF BULK AT MOST 1048576: true; the input reads as it did. -/
def fnRunFixedUptoRow : OpenClaim := { program := "ytocppoobcanhiab", sum := "ea2d1ea9f2be5c0287063d21eab2404733f3f13cb330441f5e7adfe3f98ed944", func := "loop.example/deadlinescheduler/laws.FnRunFixed", spec := "fnRunFixed", unfollowed := true, recurses := true, apart := false, narrowed := true }
def FnRunFixedUptoSaid : Prop := fnRunFixedUptoRow.holds Try.pinned (OpenSpec.upto fnRunFixedSpec)

/-- 'laws.FnFixedChoice', WHERE WHAT IT READS IS OF BULK AT MOST 1048576: true; the input reads as it did. -/
def fnFixedChoiceUptoRow : OpenClaim := { program := "ytocppoobcanhiab", sum := "ea2d1ea9f2be5c0287063d21eab2404733f3f13cb330441f5e7adfe3f98ed944", func := "loop.example/deadlinescheduler/laws.FnFixedChoice", spec := "fnFixedChoice", unfollowed := true, recurses := true, apart := false, narrowed := true }
def FnFixedChoiceUptoSaid : Prop := fnFixedChoiceUptoRow.holds Try.pinned (OpenSpec.upto fnFixedChoiceSpec)

/-- 'laws.FnBusyPeriod', WHERE WHAT IT READS IS OF BULK AT MOST 1048576: true; the input reads as it did. -/
def fnBusyPeriodUptoRow : OpenClaim := { program := "ytocppoobcanhiab", sum := "ea2d1ea9f2be5c0287063d21eab2404733f3f13cb330441f5e7adfe3f98ed944", func := "loop.example/deadlinescheduler/laws.FnBusyPeriod", spec := "fnBusyPeriod", unfollowed := true, recurses := true, apart := false, narrowed := true }
def FnBusyPeriodUptoSaid : Prop := fnBusyPeriodUptoRow.holds Try.pinned (OpenSpec.upto fnBusyPeriodSpec)

/-- 'laws.FnBusyEnough', WHERE WHAT IT READS IS OF BULK AT MOST 1048576: true; the input reads as it did. -/
def fnBusyEnoughUptoRow : OpenClaim := { program := "ytocppoobcanhiab", sum := "ea2d1ea9f2be5c0287063d21eab2404733f3f13cb330441f5e7adfe3f98ed944", func := "loop.example/deadlinescheduler/laws.FnBusyEnough", spec := "fnBusyEnough", unfollowed := true, recurses := true, apart := false, narrowed := true }
def FnBusyEnoughUptoSaid : Prop := fnBusyEnoughUptoRow.holds Try.pinned (OpenSpec.upto fnBusyEnoughSpec)

/-- 'laws.FnExactBusyPeriod', WHERE WHAT IT READS IS OF BULK AT MOST 1048576: true; the input reads as it did. -/
def fnExactBusyPeriodUptoRow : OpenClaim := { program := "ytocppoobcanhiab", sum := "ea2d1ea9f2be5c0287063d21eab2404733f3f13cb330441f5e7adfe3f98ed944", func := "loop.example/deadlinescheduler/laws.FnExactBusyPeriod", spec := "fnExactBusyPeriod", unfollowed := true, recurses := true, apart := false, narrowed := true }
def FnExactBusyPeriodUptoSaid : Prop := fnExactBusyPeriodUptoRow.holds Try.pinned (OpenSpec.upto fnExactBusyPeriodSpec)

end Rows
end Go.Proofs.Ytocppoobcanhiab
