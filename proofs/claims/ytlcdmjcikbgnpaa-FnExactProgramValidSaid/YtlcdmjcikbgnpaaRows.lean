/-
  No cell of these rows narrows 'for every input' (looked for: loops, veiled, ifaces, maps, wideKeys, modest, calm, conditions, laid).
  DERIVED. THE GIVEN ROWS OF THIS SEAT. 10 by the template 'for every input the law returns true; each argument reads behind the call as it read before'; 0 by the template 'total and deterministic' (their statements: YtlcdmjcikbgnpaaTotals.lean).
  GIVEN WITH THE SEED: the statements are not yours to turn. If you find one false, say at which input.
  Laid BY PROGRAM, IN A SANDBOX (cutbox-rows.mjs): the forced cells as the released guide's own fill.sh prints them over the translation efb9e2dbae6c3bef… (all of the seat's roots in one cut). By AI agents, Wed Nov 11 2026. No macro, syntax, notation, axiom, sorry.
-/
import Derived.Test.YtlcdmjcikbgnpaaChecked
import GoSem.Claim
import GoSem.ClaimJoined
import GoSem.ClaimMapViews
import Derived.JoinedTies
import Derived.KernelRfl
namespace Go.Proofs.Ytlcdmjcikbgnpaa
/- THE CELL 'sum', in the pinned program and in every row, IS THE sha256 OF THE DUMP (.gsa) THAT YtlcdmjcikbgnpaaProg.lean LOADS. Nothing in Lean hashes anything: it is a label: what it is worth is what the hold of that sum in a sandbox is worth. -/
noncomputable def Try.pinned : Pinned := { name := "ytlcdmjcikbgnpaa", sum := "efb9e2dbae6c3bef7b27e1e91b17f78d7e3a0f61f2e45dc58565ce293895a420", checked := Try.checked }
namespace Rows
def none {H : Type} : Left H := { results := [], args := [] }

/-- 'laws.FnProgramValid': WHATEVER THE INPUT: true; the input reads as it did. -/
def fnProgramValidSpec : ChangeSpec := { name := "fnProgramValid", fn := fun _ => fun
  | [d] => { results := [.lit (.bool true)], args := [d] }
  | _ => none }
def fnProgramValidRow : OpenClaim := { program := "ytlcdmjcikbgnpaa", sum := "efb9e2dbae6c3bef7b27e1e91b17f78d7e3a0f61f2e45dc58565ce293895a420", func := "loop.example/deadlinescheduler/laws.FnProgramValid", spec := "fnProgramValid", unfollowed := true, recurses := true, apart := false }
def FnProgramValidSaid : Prop := fnProgramValidRow.holds Try.pinned (OpenSpec.ofChange fnProgramValidSpec)

/-- ITS FALSE NEIGHBOUR: 'it returns false'. Refute it at one input. -/
def fnProgramValidWrong : ChangeSpec := { name := "fnProgramValid", fn := fun _ => fun
  | [d] => { results := [.lit (.bool false)], args := [d] }
  | _ => none }
def FnProgramValidWrongFalsely : Prop := fnProgramValidRow.holds Try.pinned (OpenSpec.ofChange fnProgramValidWrong)

/-- 'laws.FnWcet': WHATEVER THE INPUT: true; the input reads as it did. -/
def fnWcetSpec : ChangeSpec := { name := "fnWcet", fn := fun _ => fun
  | [d] => { results := [.lit (.bool true)], args := [d] }
  | _ => none }
def fnWcetRow : OpenClaim := { program := "ytlcdmjcikbgnpaa", sum := "efb9e2dbae6c3bef7b27e1e91b17f78d7e3a0f61f2e45dc58565ce293895a420", func := "loop.example/deadlinescheduler/laws.FnWcet", spec := "fnWcet", unfollowed := true, recurses := true, apart := false }
def FnWcetSaid : Prop := fnWcetRow.holds Try.pinned (OpenSpec.ofChange fnWcetSpec)

/-- ITS FALSE NEIGHBOUR: 'it returns false'. Refute it at one input. -/
def fnWcetWrong : ChangeSpec := { name := "fnWcet", fn := fun _ => fun
  | [d] => { results := [.lit (.bool false)], args := [d] }
  | _ => none }
def FnWcetWrongFalsely : Prop := fnWcetRow.holds Try.pinned (OpenSpec.ofChange fnWcetWrong)

/-- 'laws.FnWcetTight': WHATEVER THE INPUT: true; the input reads as it did. -/
def fnWcetTightSpec : ChangeSpec := { name := "fnWcetTight", fn := fun _ => fun
  | [d] => { results := [.lit (.bool true)], args := [d] }
  | _ => none }
def fnWcetTightRow : OpenClaim := { program := "ytlcdmjcikbgnpaa", sum := "efb9e2dbae6c3bef7b27e1e91b17f78d7e3a0f61f2e45dc58565ce293895a420", func := "loop.example/deadlinescheduler/laws.FnWcetTight", spec := "fnWcetTight", unfollowed := true, recurses := true, apart := false }
def FnWcetTightSaid : Prop := fnWcetTightRow.holds Try.pinned (OpenSpec.ofChange fnWcetTightSpec)

/-- ITS FALSE NEIGHBOUR: 'it returns false'. Refute it at one input. -/
def fnWcetTightWrong : ChangeSpec := { name := "fnWcetTight", fn := fun _ => fun
  | [d] => { results := [.lit (.bool false)], args := [d] }
  | _ => none }
def FnWcetTightWrongFalsely : Prop := fnWcetTightRow.holds Try.pinned (OpenSpec.ofChange fnWcetTightWrong)

/-- 'laws.FnRunProgram': WHATEVER THE INPUT: true; the input reads as it did. -/
def fnRunProgramSpec : ChangeSpec := { name := "fnRunProgram", fn := fun _ => fun
  | [d] => { results := [.lit (.bool true)], args := [d] }
  | _ => none }
def fnRunProgramRow : OpenClaim := { program := "ytlcdmjcikbgnpaa", sum := "efb9e2dbae6c3bef7b27e1e91b17f78d7e3a0f61f2e45dc58565ce293895a420", func := "loop.example/deadlinescheduler/laws.FnRunProgram", spec := "fnRunProgram", unfollowed := true, recurses := true, apart := false }
def FnRunProgramSaid : Prop := fnRunProgramRow.holds Try.pinned (OpenSpec.ofChange fnRunProgramSpec)

/-- ITS FALSE NEIGHBOUR: 'it returns false'. Refute it at one input. -/
def fnRunProgramWrong : ChangeSpec := { name := "fnRunProgram", fn := fun _ => fun
  | [d] => { results := [.lit (.bool false)], args := [d] }
  | _ => none }
def FnRunProgramWrongFalsely : Prop := fnRunProgramRow.holds Try.pinned (OpenSpec.ofChange fnRunProgramWrong)

/-- 'laws.FnWcetMonotone': WHATEVER THE INPUT: true; the input reads as it did. -/
def fnWcetMonotoneSpec : ChangeSpec := { name := "fnWcetMonotone", fn := fun _ => fun
  | [d] => { results := [.lit (.bool true)], args := [d] }
  | _ => none }
def fnWcetMonotoneRow : OpenClaim := { program := "ytlcdmjcikbgnpaa", sum := "efb9e2dbae6c3bef7b27e1e91b17f78d7e3a0f61f2e45dc58565ce293895a420", func := "loop.example/deadlinescheduler/laws.FnWcetMonotone", spec := "fnWcetMonotone", unfollowed := true, recurses := true, apart := false }
def FnWcetMonotoneSaid : Prop := fnWcetMonotoneRow.holds Try.pinned (OpenSpec.ofChange fnWcetMonotoneSpec)

/-- ITS FALSE NEIGHBOUR: 'it returns false'. Refute it at one input. -/
def fnWcetMonotoneWrong : ChangeSpec := { name := "fnWcetMonotone", fn := fun _ => fun
  | [d] => { results := [.lit (.bool false)], args := [d] }
  | _ => none }
def FnWcetMonotoneWrongFalsely : Prop := fnWcetMonotoneRow.holds Try.pinned (OpenSpec.ofChange fnWcetMonotoneWrong)

/-- 'laws.FnExactProgramValid': WHATEVER THE INPUT: true; the input reads as it did. -/
def fnExactProgramValidSpec : ChangeSpec := { name := "fnExactProgramValid", fn := fun _ => fun
  | [d] => { results := [.lit (.bool true)], args := [d] }
  | _ => none }
def fnExactProgramValidRow : OpenClaim := { program := "ytlcdmjcikbgnpaa", sum := "efb9e2dbae6c3bef7b27e1e91b17f78d7e3a0f61f2e45dc58565ce293895a420", func := "loop.example/deadlinescheduler/laws.FnExactProgramValid", spec := "fnExactProgramValid", unfollowed := true, recurses := true, apart := false }
def FnExactProgramValidSaid : Prop := fnExactProgramValidRow.holds Try.pinned (OpenSpec.ofChange fnExactProgramValidSpec)

/-- ITS FALSE NEIGHBOUR: 'it returns false'. Refute it at one input. -/
def fnExactProgramValidWrong : ChangeSpec := { name := "fnExactProgramValid", fn := fun _ => fun
  | [d] => { results := [.lit (.bool false)], args := [d] }
  | _ => none }
def FnExactProgramValidWrongFalsely : Prop := fnExactProgramValidRow.holds Try.pinned (OpenSpec.ofChange fnExactProgramValidWrong)

/-- 'laws.FnExactWcet': WHATEVER THE INPUT: true; the input reads as it did. -/
def fnExactWcetSpec : ChangeSpec := { name := "fnExactWcet", fn := fun _ => fun
  | [d] => { results := [.lit (.bool true)], args := [d] }
  | _ => none }
def fnExactWcetRow : OpenClaim := { program := "ytlcdmjcikbgnpaa", sum := "efb9e2dbae6c3bef7b27e1e91b17f78d7e3a0f61f2e45dc58565ce293895a420", func := "loop.example/deadlinescheduler/laws.FnExactWcet", spec := "fnExactWcet", unfollowed := true, recurses := true, apart := false }
def FnExactWcetSaid : Prop := fnExactWcetRow.holds Try.pinned (OpenSpec.ofChange fnExactWcetSpec)

/-- ITS FALSE NEIGHBOUR: 'it returns false'. Refute it at one input. -/
def fnExactWcetWrong : ChangeSpec := { name := "fnExactWcet", fn := fun _ => fun
  | [d] => { results := [.lit (.bool false)], args := [d] }
  | _ => none }
def FnExactWcetWrongFalsely : Prop := fnExactWcetRow.holds Try.pinned (OpenSpec.ofChange fnExactWcetWrong)

/-- 'laws.FnExactBcet': WHATEVER THE INPUT: true; the input reads as it did. -/
def fnExactBcetSpec : ChangeSpec := { name := "fnExactBcet", fn := fun _ => fun
  | [d] => { results := [.lit (.bool true)], args := [d] }
  | _ => none }
def fnExactBcetRow : OpenClaim := { program := "ytlcdmjcikbgnpaa", sum := "efb9e2dbae6c3bef7b27e1e91b17f78d7e3a0f61f2e45dc58565ce293895a420", func := "loop.example/deadlinescheduler/laws.FnExactBcet", spec := "fnExactBcet", unfollowed := true, recurses := true, apart := false }
def FnExactBcetSaid : Prop := fnExactBcetRow.holds Try.pinned (OpenSpec.ofChange fnExactBcetSpec)

/-- ITS FALSE NEIGHBOUR: 'it returns false'. Refute it at one input. -/
def fnExactBcetWrong : ChangeSpec := { name := "fnExactBcet", fn := fun _ => fun
  | [d] => { results := [.lit (.bool false)], args := [d] }
  | _ => none }
def FnExactBcetWrongFalsely : Prop := fnExactBcetRow.holds Try.pinned (OpenSpec.ofChange fnExactBcetWrong)

/-- 'laws.FnExactRunProgram': WHATEVER THE INPUT: true; the input reads as it did. -/
def fnExactRunProgramSpec : ChangeSpec := { name := "fnExactRunProgram", fn := fun _ => fun
  | [d1, d2] => { results := [.lit (.bool true)], args := [d1, d2] }
  | _ => none }
def fnExactRunProgramRow : OpenClaim := { program := "ytlcdmjcikbgnpaa", sum := "efb9e2dbae6c3bef7b27e1e91b17f78d7e3a0f61f2e45dc58565ce293895a420", func := "loop.example/deadlinescheduler/laws.FnExactRunProgram", spec := "fnExactRunProgram", unfollowed := true, recurses := true, apart := false }
def FnExactRunProgramSaid : Prop := fnExactRunProgramRow.holds Try.pinned (OpenSpec.ofChange fnExactRunProgramSpec)

/-- ITS FALSE NEIGHBOUR: 'it returns false'. Refute it at one input. -/
def fnExactRunProgramWrong : ChangeSpec := { name := "fnExactRunProgram", fn := fun _ => fun
  | [d1, d2] => { results := [.lit (.bool false)], args := [d1, d2] }
  | _ => none }
def FnExactRunProgramWrongFalsely : Prop := fnExactRunProgramRow.holds Try.pinned (OpenSpec.ofChange fnExactRunProgramWrong)

/-- 'laws.FnExactWorstChoices': WHATEVER THE INPUT: true; the input reads as it did. -/
def fnExactWorstChoicesSpec : ChangeSpec := { name := "fnExactWorstChoices", fn := fun _ => fun
  | [d] => { results := [.lit (.bool true)], args := [d] }
  | _ => none }
def fnExactWorstChoicesRow : OpenClaim := { program := "ytlcdmjcikbgnpaa", sum := "efb9e2dbae6c3bef7b27e1e91b17f78d7e3a0f61f2e45dc58565ce293895a420", func := "loop.example/deadlinescheduler/laws.FnExactWorstChoices", spec := "fnExactWorstChoices", unfollowed := true, recurses := true, apart := false }
def FnExactWorstChoicesSaid : Prop := fnExactWorstChoicesRow.holds Try.pinned (OpenSpec.ofChange fnExactWorstChoicesSpec)

/-- ITS FALSE NEIGHBOUR: 'it returns false'. Refute it at one input. -/
def fnExactWorstChoicesWrong : ChangeSpec := { name := "fnExactWorstChoices", fn := fun _ => fun
  | [d] => { results := [.lit (.bool false)], args := [d] }
  | _ => none }
def FnExactWorstChoicesWrongFalsely : Prop := fnExactWorstChoicesRow.holds Try.pinned (OpenSpec.ofChange fnExactWorstChoicesWrong)

/- THE SECOND FORM. 'bulk': how many values and letters a reading holds, each counted each time it is reached (what is shared counts as often as it is met; a slice's spare places count too). A statement '..UptoSaid' is the law's where the arguments, and the package variables that the reading takes, are together of bulk at most 1048576: NARROWER than '..Said'. Prove '..Said' where nothing that the law and all that it calls make is longer than what came in: it says more and counts as full. Else prove '..UptoSaid'. A law counts once. -/
mutual
def uptoBulk {H : Type} : DataW H → Nat
  | .lit (.string bytes) => bytes.length + 1
  | .lit _ => 1
  | .nil => 1
  | .ptr d => uptoBulk d + 1
  | .slice elems spare => uptoBulkAll elems + uptoBulkAll spare + 1
  | .agg parts => uptoBulkAll parts + 1
  | .iface _ d => uptoBulk d + 1
  | .map entries => uptoBulkEntries entries + 1
  | .held _ => 1
def uptoBulkAll {H : Type} : List (DataW H) → Nat
  | [] => 0
  | d :: r => uptoBulk d + uptoBulkAll r
def uptoBulkEntries {H : Type} : List (Lit × DataW H) → Nat
  | [] => 0
  | x :: r => uptoBulkEntry x + uptoBulkEntries r
def uptoBulkEntry {H : Type} : Lit × DataW H → Nat
  | (.string bytes, d) => bytes.length + uptoBulk d + 1
  | (_, d) => uptoBulk d + 1
 end
def uptoSmall : (H : Type) → List (DataW H) → Bool := fun _ ds => decide (uptoBulkAll ds ≤ 1048576)
def OpenSpec.upto (s : _root_.Go.ChangeSpec) : _root_.Go.OpenSpec := { _root_.Go.OpenSpec.ofChange s with cond := some uptoSmall }

/-- 'laws.FnProgramValid', WHERE WHAT IT READS IS OF BULK AT MOST 1048576: true; the input reads as it did. -/
def fnProgramValidUptoRow : OpenClaim := { program := "ytlcdmjcikbgnpaa", sum := "efb9e2dbae6c3bef7b27e1e91b17f78d7e3a0f61f2e45dc58565ce293895a420", func := "loop.example/deadlinescheduler/laws.FnProgramValid", spec := "fnProgramValid", unfollowed := true, recurses := true, apart := false, narrowed := true }
def FnProgramValidUptoSaid : Prop := fnProgramValidUptoRow.holds Try.pinned (OpenSpec.upto fnProgramValidSpec)

/-- 'laws.FnWcet', WHERE WHAT IT READS IS OF BULK AT MOST 1048576: true; the input reads as it did. -/
def fnWcetUptoRow : OpenClaim := { program := "ytlcdmjcikbgnpaa", sum := "efb9e2dbae6c3bef7b27e1e91b17f78d7e3a0f61f2e45dc58565ce293895a420", func := "loop.example/deadlinescheduler/laws.FnWcet", spec := "fnWcet", unfollowed := true, recurses := true, apart := false, narrowed := true }
def FnWcetUptoSaid : Prop := fnWcetUptoRow.holds Try.pinned (OpenSpec.upto fnWcetSpec)

/-- 'laws.FnWcetTight', WHERE WHAT IT READS IS OF BULK AT MOST 1048576: true; the input reads as it did. -/
def fnWcetTightUptoRow : OpenClaim := { program := "ytlcdmjcikbgnpaa", sum := "efb9e2dbae6c3bef7b27e1e91b17f78d7e3a0f61f2e45dc58565ce293895a420", func := "loop.example/deadlinescheduler/laws.FnWcetTight", spec := "fnWcetTight", unfollowed := true, recurses := true, apart := false, narrowed := true }
def FnWcetTightUptoSaid : Prop := fnWcetTightUptoRow.holds Try.pinned (OpenSpec.upto fnWcetTightSpec)

/-- 'laws.FnRunProgram', WHERE WHAT IT READS IS OF BULK AT MOST 1048576: true; the input reads as it did. -/
def fnRunProgramUptoRow : OpenClaim := { program := "ytlcdmjcikbgnpaa", sum := "efb9e2dbae6c3bef7b27e1e91b17f78d7e3a0f61f2e45dc58565ce293895a420", func := "loop.example/deadlinescheduler/laws.FnRunProgram", spec := "fnRunProgram", unfollowed := true, recurses := true, apart := false, narrowed := true }
def FnRunProgramUptoSaid : Prop := fnRunProgramUptoRow.holds Try.pinned (OpenSpec.upto fnRunProgramSpec)

/-- 'laws.FnWcetMonotone', WHERE WHAT IT READS IS OF BULK AT MOST 1048576: true; the input reads as it did. -/
def fnWcetMonotoneUptoRow : OpenClaim := { program := "ytlcdmjcikbgnpaa", sum := "efb9e2dbae6c3bef7b27e1e91b17f78d7e3a0f61f2e45dc58565ce293895a420", func := "loop.example/deadlinescheduler/laws.FnWcetMonotone", spec := "fnWcetMonotone", unfollowed := true, recurses := true, apart := false, narrowed := true }
def FnWcetMonotoneUptoSaid : Prop := fnWcetMonotoneUptoRow.holds Try.pinned (OpenSpec.upto fnWcetMonotoneSpec)

/-- 'laws.FnExactProgramValid', WHERE WHAT IT READS IS OF BULK AT MOST 1048576: true; the input reads as it did. -/
def fnExactProgramValidUptoRow : OpenClaim := { program := "ytlcdmjcikbgnpaa", sum := "efb9e2dbae6c3bef7b27e1e91b17f78d7e3a0f61f2e45dc58565ce293895a420", func := "loop.example/deadlinescheduler/laws.FnExactProgramValid", spec := "fnExactProgramValid", unfollowed := true, recurses := true, apart := false, narrowed := true }
def FnExactProgramValidUptoSaid : Prop := fnExactProgramValidUptoRow.holds Try.pinned (OpenSpec.upto fnExactProgramValidSpec)

/-- 'laws.FnExactWcet', WHERE WHAT IT READS IS OF BULK AT MOST 1048576: true; the input reads as it did. -/
def fnExactWcetUptoRow : OpenClaim := { program := "ytlcdmjcikbgnpaa", sum := "efb9e2dbae6c3bef7b27e1e91b17f78d7e3a0f61f2e45dc58565ce293895a420", func := "loop.example/deadlinescheduler/laws.FnExactWcet", spec := "fnExactWcet", unfollowed := true, recurses := true, apart := false, narrowed := true }
def FnExactWcetUptoSaid : Prop := fnExactWcetUptoRow.holds Try.pinned (OpenSpec.upto fnExactWcetSpec)

/-- 'laws.FnExactBcet', WHERE WHAT IT READS IS OF BULK AT MOST 1048576: true; the input reads as it did. -/
def fnExactBcetUptoRow : OpenClaim := { program := "ytlcdmjcikbgnpaa", sum := "efb9e2dbae6c3bef7b27e1e91b17f78d7e3a0f61f2e45dc58565ce293895a420", func := "loop.example/deadlinescheduler/laws.FnExactBcet", spec := "fnExactBcet", unfollowed := true, recurses := true, apart := false, narrowed := true }
def FnExactBcetUptoSaid : Prop := fnExactBcetUptoRow.holds Try.pinned (OpenSpec.upto fnExactBcetSpec)

/-- 'laws.FnExactRunProgram', WHERE WHAT IT READS IS OF BULK AT MOST 1048576: true; the input reads as it did. -/
def fnExactRunProgramUptoRow : OpenClaim := { program := "ytlcdmjcikbgnpaa", sum := "efb9e2dbae6c3bef7b27e1e91b17f78d7e3a0f61f2e45dc58565ce293895a420", func := "loop.example/deadlinescheduler/laws.FnExactRunProgram", spec := "fnExactRunProgram", unfollowed := true, recurses := true, apart := false, narrowed := true }
def FnExactRunProgramUptoSaid : Prop := fnExactRunProgramUptoRow.holds Try.pinned (OpenSpec.upto fnExactRunProgramSpec)

/-- 'laws.FnExactWorstChoices', WHERE WHAT IT READS IS OF BULK AT MOST 1048576: true; the input reads as it did. -/
def fnExactWorstChoicesUptoRow : OpenClaim := { program := "ytlcdmjcikbgnpaa", sum := "efb9e2dbae6c3bef7b27e1e91b17f78d7e3a0f61f2e45dc58565ce293895a420", func := "loop.example/deadlinescheduler/laws.FnExactWorstChoices", spec := "fnExactWorstChoices", unfollowed := true, recurses := true, apart := false, narrowed := true }
def FnExactWorstChoicesUptoSaid : Prop := fnExactWorstChoicesUptoRow.holds Try.pinned (OpenSpec.upto fnExactWorstChoicesSpec)

end Rows
end Go.Proofs.Ytlcdmjcikbgnpaa
