/-
  No cell of these rows narrows 'for every input' (looked for: loops, veiled, ifaces, maps, wideKeys, modest, calm, conditions, laid).
  DERIVED. THE GIVEN ROWS OF THIS SEAT. 6 by the template 'for every input the law returns true; each argument reads behind the call as it read before'; 0 by the template 'total and deterministic' (their statements: YtilfmfhbdafogaaTotals.lean).
  GIVEN WITH THE SEED: the statements are not yours to turn. If you find one false, say at which input.
  Laid BY PROGRAM, IN A SANDBOX (cutbox-rows.mjs): the forced cells as the released guide's own fill.sh prints them over the translation bff47d2083dbd218… (all of the seat's roots in one cut). By AI agents, Wed Nov 11 2026. No macro, syntax, notation, axiom, sorry.
-/
import Derived.Test.YtilfmfhbdafogaaChecked
import GoSem.Claim
import GoSem.ClaimJoined
import GoSem.ClaimMapViews
import Derived.JoinedTies
import Derived.KernelRfl
namespace Go.Proofs.Ytilfmfhbdafogaa
/- THE CELL 'sum', in the pinned program and in every row, IS THE sha256 OF THE DUMP (.gsa) THAT YtilfmfhbdafogaaProg.lean LOADS. Nothing in Lean hashes anything: it is a label: what it is worth is what the hold of that sum in a sandbox is worth. -/
noncomputable def Try.pinned : Pinned := { name := "ytilfmfhbdafogaa", sum := "bff47d2083dbd218215baef3829df3c402561d9fa63e8cd62021c857bfcfac89", checked := Try.checked }
namespace Rows
def none {H : Type} : Left H := { results := [], args := [] }

/-- 'laws.FnExactAssignmentValid': WHATEVER THE INPUT: true; the input reads as it did. -/
def fnExactAssignmentValidSpec : ChangeSpec := { name := "fnExactAssignmentValid", fn := fun _ => fun
  | [d1, d2, d3] => { results := [.lit (.bool true)], args := [d1, d2, d3] }
  | _ => none }
def fnExactAssignmentValidRow : OpenClaim := { program := "ytilfmfhbdafogaa", sum := "bff47d2083dbd218215baef3829df3c402561d9fa63e8cd62021c857bfcfac89", func := "loop.example/deadlinescheduler/laws.FnExactAssignmentValid", spec := "fnExactAssignmentValid", unfollowed := true, recurses := true, apart := false }
def FnExactAssignmentValidSaid : Prop := fnExactAssignmentValidRow.holds Try.pinned (OpenSpec.ofChange fnExactAssignmentValidSpec)

/-- ITS FALSE NEIGHBOUR: 'it returns false'. Refute it at one input. -/
def fnExactAssignmentValidWrong : ChangeSpec := { name := "fnExactAssignmentValid", fn := fun _ => fun
  | [d1, d2, d3] => { results := [.lit (.bool false)], args := [d1, d2, d3] }
  | _ => none }
def FnExactAssignmentValidWrongFalsely : Prop := fnExactAssignmentValidRow.holds Try.pinned (OpenSpec.ofChange fnExactAssignmentValidWrong)

/-- 'laws.FnExactCoreTasks': WHATEVER THE INPUT: true; the input reads as it did. -/
def fnExactCoreTasksSpec : ChangeSpec := { name := "fnExactCoreTasks", fn := fun _ => fun
  | [d1, d2, d3, d4] => { results := [.lit (.bool true)], args := [d1, d2, d3, d4] }
  | _ => none }
def fnExactCoreTasksRow : OpenClaim := { program := "ytilfmfhbdafogaa", sum := "bff47d2083dbd218215baef3829df3c402561d9fa63e8cd62021c857bfcfac89", func := "loop.example/deadlinescheduler/laws.FnExactCoreTasks", spec := "fnExactCoreTasks", unfollowed := true, recurses := true, apart := false }
def FnExactCoreTasksSaid : Prop := fnExactCoreTasksRow.holds Try.pinned (OpenSpec.ofChange fnExactCoreTasksSpec)

/-- ITS FALSE NEIGHBOUR: 'it returns false'. Refute it at one input. -/
def fnExactCoreTasksWrong : ChangeSpec := { name := "fnExactCoreTasks", fn := fun _ => fun
  | [d1, d2, d3, d4] => { results := [.lit (.bool false)], args := [d1, d2, d3, d4] }
  | _ => none }
def FnExactCoreTasksWrongFalsely : Prop := fnExactCoreTasksRow.holds Try.pinned (OpenSpec.ofChange fnExactCoreTasksWrong)

/-- 'laws.FnExactAssignmentFeasible': WHATEVER THE INPUT: true; the input reads as it did. -/
def fnExactAssignmentFeasibleSpec : ChangeSpec := { name := "fnExactAssignmentFeasible", fn := fun _ => fun
  | [d1, d2, d3] => { results := [.lit (.bool true)], args := [d1, d2, d3] }
  | _ => none }
def fnExactAssignmentFeasibleRow : OpenClaim := { program := "ytilfmfhbdafogaa", sum := "bff47d2083dbd218215baef3829df3c402561d9fa63e8cd62021c857bfcfac89", func := "loop.example/deadlinescheduler/laws.FnExactAssignmentFeasible", spec := "fnExactAssignmentFeasible", unfollowed := true, recurses := true, apart := false }
def FnExactAssignmentFeasibleSaid : Prop := fnExactAssignmentFeasibleRow.holds Try.pinned (OpenSpec.ofChange fnExactAssignmentFeasibleSpec)

/-- ITS FALSE NEIGHBOUR: 'it returns false'. Refute it at one input. -/
def fnExactAssignmentFeasibleWrong : ChangeSpec := { name := "fnExactAssignmentFeasible", fn := fun _ => fun
  | [d1, d2, d3] => { results := [.lit (.bool false)], args := [d1, d2, d3] }
  | _ => none }
def FnExactAssignmentFeasibleWrongFalsely : Prop := fnExactAssignmentFeasibleRow.holds Try.pinned (OpenSpec.ofChange fnExactAssignmentFeasibleWrong)

/-- 'laws.FnExactFirstFit': WHATEVER THE INPUT: true; the input reads as it did. -/
def fnExactFirstFitSpec : ChangeSpec := { name := "fnExactFirstFit", fn := fun _ => fun
  | [d1, d2] => { results := [.lit (.bool true)], args := [d1, d2] }
  | _ => none }
def fnExactFirstFitRow : OpenClaim := { program := "ytilfmfhbdafogaa", sum := "bff47d2083dbd218215baef3829df3c402561d9fa63e8cd62021c857bfcfac89", func := "loop.example/deadlinescheduler/laws.FnExactFirstFit", spec := "fnExactFirstFit", unfollowed := true, recurses := true, apart := false }
def FnExactFirstFitSaid : Prop := fnExactFirstFitRow.holds Try.pinned (OpenSpec.ofChange fnExactFirstFitSpec)

/-- ITS FALSE NEIGHBOUR: 'it returns false'. Refute it at one input. -/
def fnExactFirstFitWrong : ChangeSpec := { name := "fnExactFirstFit", fn := fun _ => fun
  | [d1, d2] => { results := [.lit (.bool false)], args := [d1, d2] }
  | _ => none }
def FnExactFirstFitWrongFalsely : Prop := fnExactFirstFitRow.holds Try.pinned (OpenSpec.ofChange fnExactFirstFitWrong)

/-- 'laws.FnExactPartition': WHATEVER THE INPUT: true; the input reads as it did. -/
def fnExactPartitionSpec : ChangeSpec := { name := "fnExactPartition", fn := fun _ => fun
  | [d1, d2] => { results := [.lit (.bool true)], args := [d1, d2] }
  | _ => none }
def fnExactPartitionRow : OpenClaim := { program := "ytilfmfhbdafogaa", sum := "bff47d2083dbd218215baef3829df3c402561d9fa63e8cd62021c857bfcfac89", func := "loop.example/deadlinescheduler/laws.FnExactPartition", spec := "fnExactPartition", unfollowed := true, recurses := true, apart := false }
def FnExactPartitionSaid : Prop := fnExactPartitionRow.holds Try.pinned (OpenSpec.ofChange fnExactPartitionSpec)

/-- ITS FALSE NEIGHBOUR: 'it returns false'. Refute it at one input. -/
def fnExactPartitionWrong : ChangeSpec := { name := "fnExactPartition", fn := fun _ => fun
  | [d1, d2] => { results := [.lit (.bool false)], args := [d1, d2] }
  | _ => none }
def FnExactPartitionWrongFalsely : Prop := fnExactPartitionRow.holds Try.pinned (OpenSpec.ofChange fnExactPartitionWrong)

/-- 'laws.FnExactMinCores': WHATEVER THE INPUT: true; the input reads as it did. -/
def fnExactMinCoresSpec : ChangeSpec := { name := "fnExactMinCores", fn := fun _ => fun
  | [d] => { results := [.lit (.bool true)], args := [d] }
  | _ => none }
def fnExactMinCoresRow : OpenClaim := { program := "ytilfmfhbdafogaa", sum := "bff47d2083dbd218215baef3829df3c402561d9fa63e8cd62021c857bfcfac89", func := "loop.example/deadlinescheduler/laws.FnExactMinCores", spec := "fnExactMinCores", unfollowed := true, recurses := true, apart := false }
def FnExactMinCoresSaid : Prop := fnExactMinCoresRow.holds Try.pinned (OpenSpec.ofChange fnExactMinCoresSpec)

/-- ITS FALSE NEIGHBOUR: 'it returns false'. Refute it at one input. -/
def fnExactMinCoresWrong : ChangeSpec := { name := "fnExactMinCores", fn := fun _ => fun
  | [d] => { results := [.lit (.bool false)], args := [d] }
  | _ => none }
def FnExactMinCoresWrongFalsely : Prop := fnExactMinCoresRow.holds Try.pinned (OpenSpec.ofChange fnExactMinCoresWrong)

/- THE SECOND FORM. 'bulk': how many values and letters a reading holds, each counted each time it is reached (what is shared counts as often as it is met; a slice's spare places count too). A statement '..UptoSaid' is the law's where the arguments, and the package variables that the reading takes, are together of bulk at most 1048576: NARROWER than '..Said'. Prove '..Said' where nothing that the law and all that it calls make is longer than what came in: it says more and counts as full. Else prove '..UptoSaid'. A law counts once. -/
mutual
def uptoBulk {H : Type} : DataW H → Nat
  | .lit (.string bytes) => bytes.length + 1
  | .lit _ => 1
  | .nil => 1
  | .ptr d => uptoBulk d + 1
  | .slice elems spare => uptoBulkAll elems + uptoBulkAll spare + 1
  | .agg parts => uptoBulkAll parts + 1
  | .iface _ d => uptoBulk d + 1
  | .map entries => uptoBulkEntries entries + 1
  | .held _ => 1
def uptoBulkAll {H : Type} : List (DataW H) → Nat
  | [] => 0
  | d :: r => uptoBulk d + uptoBulkAll r
def uptoBulkEntries {H : Type} : List (Lit × DataW H) → Nat
  | [] => 0
  | x :: r => uptoBulkEntry x + uptoBulkEntries r
def uptoBulkEntry {H : Type} : Lit × DataW H → Nat
  | (.string bytes, d) => bytes.length + uptoBulk d + 1
  | (_, d) => uptoBulk d + 1
 end
def uptoSmall : (H : Type) → List (DataW H) → Bool := fun _ ds => decide (uptoBulkAll ds ≤ 1048576)
def OpenSpec.upto (s : _root_.Go.ChangeSpec) : _root_.Go.OpenSpec := { _root_.Go.OpenSpec.ofChange s with cond := some uptoSmall }

/-- 'laws.FnExactAssignmentValid', WHERE WHAT IT READS IS OF BULK AT MOST 1048576: true; the input reads as it did. -/
def fnExactAssignmentValidUptoRow : OpenClaim := { program := "ytilfmfhbdafogaa", sum := "bff47d2083dbd218215baef3829df3c402561d9fa63e8cd62021c857bfcfac89", func := "loop.example/deadlinescheduler/laws.FnExactAssignmentValid", spec := "fnExactAssignmentValid", unfollowed := true, recurses := true, apart := false, narrowed := true }
def FnExactAssignmentValidUptoSaid : Prop := fnExactAssignmentValidUptoRow.holds Try.pinned (OpenSpec.upto fnExactAssignmentValidSpec)

/-- 'laws.FnExactCoreTasks', WHERE WHAT IT READS IS OF BULK AT MOST 1048576: true; the input reads as it did. -/
def fnExactCoreTasksUptoRow : OpenClaim := { program := "ytilfmfhbdafogaa", sum := "bff47d2083dbd218215baef3829df3c402561d9fa63e8cd62021c857bfcfac89", func := "loop.example/deadlinescheduler/laws.FnExactCoreTasks", spec := "fnExactCoreTasks", unfollowed := true, recurses := true, apart := false, narrowed := true }
def FnExactCoreTasksUptoSaid : Prop := fnExactCoreTasksUptoRow.holds Try.pinned (OpenSpec.upto fnExactCoreTasksSpec)

/-- 'laws.FnExactAssignmentFeasible', WHERE WHAT IT READS IS OF BULK AT MOST 1048576: true; the input reads as it did. -/
def fnExactAssignmentFeasibleUptoRow : OpenClaim := { program := "ytilfmfhbdafogaa", sum := "bff47d2083dbd218215baef3829df3c402561d9fa63e8cd62021c857bfcfac89", func := "loop.example/deadlinescheduler/laws.FnExactAssignmentFeasible", spec := "fnExactAssignmentFeasible", unfollowed := true, recurses := true, apart := false, narrowed := true }
def FnExactAssignmentFeasibleUptoSaid : Prop := fnExactAssignmentFeasibleUptoRow.holds Try.pinned (OpenSpec.upto fnExactAssignmentFeasibleSpec)

/-- 'laws.FnExactFirstFit', WHERE WHAT IT READS IS OF BULK AT MOST 1048576: true; the input reads as it did. -/
def fnExactFirstFitUptoRow : OpenClaim := { program := "ytilfmfhbdafogaa", sum := "bff47d2083dbd218215baef3829df3c402561d9fa63e8cd62021c857bfcfac89", func := "loop.example/deadlinescheduler/laws.FnExactFirstFit", spec := "fnExactFirstFit", unfollowed := true, recurses := true, apart := false, narrowed := true }
def FnExactFirstFitUptoSaid : Prop := fnExactFirstFitUptoRow.holds Try.pinned (OpenSpec.upto fnExactFirstFitSpec)

/-- 'laws.FnExactPartition', WHERE WHAT IT READS IS OF BULK AT MOST 1048576: true; the input reads as it did. -/
def fnExactPartitionUptoRow : OpenClaim := { program := "ytilfmfhbdafogaa", sum := "bff47d2083dbd218215baef3829df3c402561d9fa63e8cd62021c857bfcfac89", func := "loop.example/deadlinescheduler/laws.FnExactPartition", spec := "fnExactPartition", unfollowed := true, recurses := true, apart := false, narrowed := true }
def FnExactPartitionUptoSaid : Prop := fnExactPartitionUptoRow.holds Try.pinned (OpenSpec.upto fnExactPartitionSpec)

/-- 'laws.FnExactMinCores', WHERE WHAT IT READS IS OF BULK AT MOST 1048576: true; the input reads as it did. -/
def fnExactMinCoresUptoRow : OpenClaim := { program := "ytilfmfhbdafogaa", sum := "bff47d2083dbd218215baef3829df3c402561d9fa63e8cd62021c857bfcfac89", func := "loop.example/deadlinescheduler/laws.FnExactMinCores", spec := "fnExactMinCores", unfollowed := true, recurses := true, apart := false, narrowed := true }
def FnExactMinCoresUptoSaid : Prop := fnExactMinCoresUptoRow.holds Try.pinned (OpenSpec.upto fnExactMinCoresSpec)

end Rows
end Go.Proofs.Ytilfmfhbdafogaa
