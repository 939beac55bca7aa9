/-
  No cell of these rows narrows 'for every input' (looked for: loops, veiled, ifaces, maps, wideKeys, modest, calm, conditions, laid).
  DERIVED. THE GIVEN ROWS OF THIS SEAT. 8 by the template 'for every input the law returns true; each argument reads behind the call as it read before'; 0 by the template 'total and deterministic' (their statements: YtfacohicfcdamaaTotals.lean).
  GIVEN WITH THE SEED: the statements are not yours to turn. If you find one false, say at which input.
  Laid BY PROGRAM, IN A SANDBOX (cutbox-rows.mjs): the forced cells as the released guide's own fill.sh prints them over the translation 993973bd7c8f6757… (all of the seat's roots in one cut). By AI agents, Wed Nov 11 2026. No macro, syntax, notation, axiom, sorry.
-/
import Derived.Test.YtfacohicfcdamaaChecked
import GoSem.Claim
import GoSem.ClaimJoined
import GoSem.ClaimMapViews
import Derived.JoinedTies
import Derived.KernelRfl
namespace Go.Proofs.Ytfacohicfcdamaa
/- THE CELL 'sum', in the pinned program and in every row, IS THE sha256 OF THE DUMP (.gsa) THAT YtfacohicfcdamaaProg.lean LOADS. Nothing in Lean hashes anything: it is a label: what it is worth is what the hold of that sum in a sandbox is worth. -/
noncomputable def Try.pinned : Pinned := { name := "ytfacohicfcdamaa", sum := "993973bd7c8f675773291ecd0a99a4fce96329e4be9893cde5ef84c235b9a980", checked := Try.checked }
namespace Rows
def none {H : Type} : Left H := { results := [], args := [] }

/-- 'laws.FnExactSectionsValid': WHATEVER THE INPUT: true; the input reads as it did. -/
def fnExactSectionsValidSpec : ChangeSpec := { name := "fnExactSectionsValid", fn := fun _ => fun
  | [d1, d2] => { results := [.lit (.bool true)], args := [d1, d2] }
  | _ => none }
def fnExactSectionsValidRow : OpenClaim := { program := "ytfacohicfcdamaa", sum := "993973bd7c8f675773291ecd0a99a4fce96329e4be9893cde5ef84c235b9a980", func := "loop.example/deadlinescheduler/laws.FnExactSectionsValid", spec := "fnExactSectionsValid", unfollowed := true, recurses := true, apart := false }
def FnExactSectionsValidSaid : Prop := fnExactSectionsValidRow.holds Try.pinned (OpenSpec.ofChange fnExactSectionsValidSpec)

/-- ITS FALSE NEIGHBOUR: 'it returns false'. Refute it at one input. -/
def fnExactSectionsValidWrong : ChangeSpec := { name := "fnExactSectionsValid", fn := fun _ => fun
  | [d1, d2] => { results := [.lit (.bool false)], args := [d1, d2] }
  | _ => none }
def FnExactSectionsValidWrongFalsely : Prop := fnExactSectionsValidRow.holds Try.pinned (OpenSpec.ofChange fnExactSectionsValidWrong)

/-- 'laws.FnExactCeilings': WHATEVER THE INPUT: true; the input reads as it did. -/
def fnExactCeilingsSpec : ChangeSpec := { name := "fnExactCeilings", fn := fun _ => fun
  | [d1, d2] => { results := [.lit (.bool true)], args := [d1, d2] }
  | _ => none }
def fnExactCeilingsRow : OpenClaim := { program := "ytfacohicfcdamaa", sum := "993973bd7c8f675773291ecd0a99a4fce96329e4be9893cde5ef84c235b9a980", func := "loop.example/deadlinescheduler/laws.FnExactCeilings", spec := "fnExactCeilings", unfollowed := true, recurses := true, apart := false }
def FnExactCeilingsSaid : Prop := fnExactCeilingsRow.holds Try.pinned (OpenSpec.ofChange fnExactCeilingsSpec)

/-- ITS FALSE NEIGHBOUR: 'it returns false'. Refute it at one input. -/
def fnExactCeilingsWrong : ChangeSpec := { name := "fnExactCeilings", fn := fun _ => fun
  | [d1, d2] => { results := [.lit (.bool false)], args := [d1, d2] }
  | _ => none }
def FnExactCeilingsWrongFalsely : Prop := fnExactCeilingsRow.holds Try.pinned (OpenSpec.ofChange fnExactCeilingsWrong)

/-- 'laws.FnExactBlocking': WHATEVER THE INPUT: true; the input reads as it did. -/
def fnExactBlockingSpec : ChangeSpec := { name := "fnExactBlocking", fn := fun _ => fun
  | [d1, d2, d3] => { results := [.lit (.bool true)], args := [d1, d2, d3] }
  | _ => none }
def fnExactBlockingRow : OpenClaim := { program := "ytfacohicfcdamaa", sum := "993973bd7c8f675773291ecd0a99a4fce96329e4be9893cde5ef84c235b9a980", func := "loop.example/deadlinescheduler/laws.FnExactBlocking", spec := "fnExactBlocking", unfollowed := true, recurses := true, apart := false }
def FnExactBlockingSaid : Prop := fnExactBlockingRow.holds Try.pinned (OpenSpec.ofChange fnExactBlockingSpec)

/-- ITS FALSE NEIGHBOUR: 'it returns false'. Refute it at one input. -/
def fnExactBlockingWrong : ChangeSpec := { name := "fnExactBlocking", fn := fun _ => fun
  | [d1, d2, d3] => { results := [.lit (.bool false)], args := [d1, d2, d3] }
  | _ => none }
def FnExactBlockingWrongFalsely : Prop := fnExactBlockingRow.holds Try.pinned (OpenSpec.ofChange fnExactBlockingWrong)

/-- 'laws.FnExactResourcesFeasible': WHATEVER THE INPUT: true; the input reads as it did. -/
def fnExactResourcesFeasibleSpec : ChangeSpec := { name := "fnExactResourcesFeasible", fn := fun _ => fun
  | [d1, d2] => { results := [.lit (.bool true)], args := [d1, d2] }
  | _ => none }
def fnExactResourcesFeasibleRow : OpenClaim := { program := "ytfacohicfcdamaa", sum := "993973bd7c8f675773291ecd0a99a4fce96329e4be9893cde5ef84c235b9a980", func := "loop.example/deadlinescheduler/laws.FnExactResourcesFeasible", spec := "fnExactResourcesFeasible", unfollowed := true, recurses := true, apart := false }
def FnExactResourcesFeasibleSaid : Prop := fnExactResourcesFeasibleRow.holds Try.pinned (OpenSpec.ofChange fnExactResourcesFeasibleSpec)

/-- ITS FALSE NEIGHBOUR: 'it returns false'. Refute it at one input. -/
def fnExactResourcesFeasibleWrong : ChangeSpec := { name := "fnExactResourcesFeasible", fn := fun _ => fun
  | [d1, d2] => { results := [.lit (.bool false)], args := [d1, d2] }
  | _ => none }
def FnExactResourcesFeasibleWrongFalsely : Prop := fnExactResourcesFeasibleRow.holds Try.pinned (OpenSpec.ofChange fnExactResourcesFeasibleWrong)

/-- 'laws.FnSectionsValid': WHATEVER THE INPUT: true; the input reads as it did. -/
def fnSectionsValidSpec : ChangeSpec := { name := "fnSectionsValid", fn := fun _ => fun
  | [d] => { results := [.lit (.bool true)], args := [d] }
  | _ => none }
def fnSectionsValidRow : OpenClaim := { program := "ytfacohicfcdamaa", sum := "993973bd7c8f675773291ecd0a99a4fce96329e4be9893cde5ef84c235b9a980", func := "loop.example/deadlinescheduler/laws.FnSectionsValid", spec := "fnSectionsValid", unfollowed := true, recurses := true, apart := false }
def FnSectionsValidSaid : Prop := fnSectionsValidRow.holds Try.pinned (OpenSpec.ofChange fnSectionsValidSpec)

/-- ITS FALSE NEIGHBOUR: 'it returns false'. Refute it at one input. -/
def fnSectionsValidWrong : ChangeSpec := { name := "fnSectionsValid", fn := fun _ => fun
  | [d] => { results := [.lit (.bool false)], args := [d] }
  | _ => none }
def FnSectionsValidWrongFalsely : Prop := fnSectionsValidRow.holds Try.pinned (OpenSpec.ofChange fnSectionsValidWrong)

/-- 'laws.FnCeilings': WHATEVER THE INPUT: true; the input reads as it did. -/
def fnCeilingsSpec : ChangeSpec := { name := "fnCeilings", fn := fun _ => fun
  | [d] => { results := [.lit (.bool true)], args := [d] }
  | _ => none }
def fnCeilingsRow : OpenClaim := { program := "ytfacohicfcdamaa", sum := "993973bd7c8f675773291ecd0a99a4fce96329e4be9893cde5ef84c235b9a980", func := "loop.example/deadlinescheduler/laws.FnCeilings", spec := "fnCeilings", unfollowed := true, recurses := true, apart := false }
def FnCeilingsSaid : Prop := fnCeilingsRow.holds Try.pinned (OpenSpec.ofChange fnCeilingsSpec)

/-- ITS FALSE NEIGHBOUR: 'it returns false'. Refute it at one input. -/
def fnCeilingsWrong : ChangeSpec := { name := "fnCeilings", fn := fun _ => fun
  | [d] => { results := [.lit (.bool false)], args := [d] }
  | _ => none }
def FnCeilingsWrongFalsely : Prop := fnCeilingsRow.holds Try.pinned (OpenSpec.ofChange fnCeilingsWrong)

/-- 'laws.FnBlocking': WHATEVER THE INPUT: true; the input reads as it did. -/
def fnBlockingSpec : ChangeSpec := { name := "fnBlocking", fn := fun _ => fun
  | [d] => { results := [.lit (.bool true)], args := [d] }
  | _ => none }
def fnBlockingRow : OpenClaim := { program := "ytfacohicfcdamaa", sum := "993973bd7c8f675773291ecd0a99a4fce96329e4be9893cde5ef84c235b9a980", func := "loop.example/deadlinescheduler/laws.FnBlocking", spec := "fnBlocking", unfollowed := true, recurses := true, apart := false }
def FnBlockingSaid : Prop := fnBlockingRow.holds Try.pinned (OpenSpec.ofChange fnBlockingSpec)

/-- ITS FALSE NEIGHBOUR: 'it returns false'. Refute it at one input. -/
def fnBlockingWrong : ChangeSpec := { name := "fnBlocking", fn := fun _ => fun
  | [d] => { results := [.lit (.bool false)], args := [d] }
  | _ => none }
def FnBlockingWrongFalsely : Prop := fnBlockingRow.holds Try.pinned (OpenSpec.ofChange fnBlockingWrong)

/-- 'laws.FnResourcesFeasible': WHATEVER THE INPUT: true; the input reads as it did. -/
def fnResourcesFeasibleSpec : ChangeSpec := { name := "fnResourcesFeasible", fn := fun _ => fun
  | [d] => { results := [.lit (.bool true)], args := [d] }
  | _ => none }
def fnResourcesFeasibleRow : OpenClaim := { program := "ytfacohicfcdamaa", sum := "993973bd7c8f675773291ecd0a99a4fce96329e4be9893cde5ef84c235b9a980", func := "loop.example/deadlinescheduler/laws.FnResourcesFeasible", spec := "fnResourcesFeasible", unfollowed := true, recurses := true, apart := false }
def FnResourcesFeasibleSaid : Prop := fnResourcesFeasibleRow.holds Try.pinned (OpenSpec.ofChange fnResourcesFeasibleSpec)

/-- ITS FALSE NEIGHBOUR: 'it returns false'. Refute it at one input. -/
def fnResourcesFeasibleWrong : ChangeSpec := { name := "fnResourcesFeasible", fn := fun _ => fun
  | [d] => { results := [.lit (.bool false)], args := [d] }
  | _ => none }
def FnResourcesFeasibleWrongFalsely : Prop := fnResourcesFeasibleRow.holds Try.pinned (OpenSpec.ofChange fnResourcesFeasibleWrong)

/- THE SECOND FORM. 'bulk': how many values and letters a reading holds, each counted each time it is reached (what is shared counts as often as it is met; a slice's spare places count too). A statement '..UptoSaid' is the law's where the arguments, and the package variables that the reading takes, are together of bulk at most 1048576: NARROWER than '..Said'. Prove '..Said' where nothing that the law and all that it calls make is longer than what came in: it says more and counts as full. Else prove '..UptoSaid'. A law counts once. -/
mutual
def uptoBulk {H : Type} : DataW H → Nat
  | .lit (.string bytes) => bytes.length + 1
  | .lit _ => 1
  | .nil => 1
  | .ptr d => uptoBulk d + 1
  | .slice elems spare => uptoBulkAll elems + uptoBulkAll spare + 1
  | .agg parts => uptoBulkAll parts + 1
  | .iface _ d => uptoBulk d + 1
  | .map entries => uptoBulkEntries entries + 1
  | .held _ => 1
def uptoBulkAll {H : Type} : List (DataW H) → Nat
  | [] => 0
  | d :: r => uptoBulk d + uptoBulkAll r
def uptoBulkEntries {H : Type} : List (Lit × DataW H) → Nat
  | [] => 0
  | x :: r => uptoBulkEntry x + uptoBulkEntries r
def uptoBulkEntry {H : Type} : Lit × DataW H → Nat
  | (.string bytes, d) => bytes.length + uptoBulk d + 1
  | (_, d) => uptoBulk d + 1
 end
def uptoSmall : (H : Type) → List (DataW H) → Bool := fun _ ds => decide (uptoBulkAll ds ≤ 1048576)
def OpenSpec.upto (s : _root_.Go.ChangeSpec) : _root_.Go.OpenSpec := { _root_.Go.OpenSpec.ofChange s with cond := some uptoSmall }

/-- 'laws.FnExactSectionsValid', WHERE WHAT IT READS IS OF BULK AT MOST 1048576: true; the input reads as it did. -/
def fnExactSectionsValidUptoRow : OpenClaim := { program := "ytfacohicfcdamaa", sum := "993973bd7c8f675773291ecd0a99a4fce96329e4be9893cde5ef84c235b9a980", func := "loop.example/deadlinescheduler/laws.FnExactSectionsValid", spec := "fnExactSectionsValid", unfollowed := true, recurses := true, apart := false, narrowed := true }
def FnExactSectionsValidUptoSaid : Prop := fnExactSectionsValidUptoRow.holds Try.pinned (OpenSpec.upto fnExactSectionsValidSpec)

/-- 'laws.FnExactCeilings', WHERE WHAT IT READS IS OF BULK AT MOST 1048576: true; the input reads as it did. -/
def fnExactCeilingsUptoRow : OpenClaim := { program := "ytfacohicfcdamaa", sum := "993973bd7c8f675773291ecd0a99a4fce96329e4be9893cde5ef84c235b9a980", func := "loop.example/deadlinescheduler/laws.FnExactCeilings", spec := "fnExactCeilings", unfollowed := true, recurses := true, apart := false, narrowed := true }
def FnExactCeilingsUptoSaid : Prop := fnExactCeilingsUptoRow.holds Try.pinned (OpenSpec.upto fnExactCeilingsSpec)

/-- 'laws.FnExactBlocking', WHERE WHAT IT READS IS OF BULK AT MOST 1048576: true; the input reads as it did. -/
def fnExactBlockingUptoRow : OpenClaim := { program := "ytfacohicfcdamaa", sum := "993973bd7c8f675773291ecd0a99a4fce96329e4be9893cde5ef84c235b9a980", func := "loop.example/deadlinescheduler/laws.FnExactBlocking", spec := "fnExactBlocking", unfollowed := true, recurses := true, apart := false, narrowed := true }
def FnExactBlockingUptoSaid : Prop := fnExactBlockingUptoRow.holds Try.pinned (OpenSpec.upto fnExactBlockingSpec)

/-- 'laws.FnExactResourcesFeasible', WHERE WHAT IT READS IS OF BULK AT MOST 1048576: true; the input reads as it did. -/
def fnExactResourcesFeasibleUptoRow : OpenClaim := { program := "ytfacohicfcdamaa", sum := "993973bd7c8f675773291ecd0a99a4fce96329e4be9893cde5ef84c235b9a980", func := "loop.example/deadlinescheduler/laws.FnExactResourcesFeasible", spec := "fnExactResourcesFeasible", unfollowed := true, recurses := true, apart := false, narrowed := true }
def FnExactResourcesFeasibleUptoSaid : Prop := fnExactResourcesFeasibleUptoRow.holds Try.pinned (OpenSpec.upto fnExactResourcesFeasibleSpec)

/-- 'laws.FnSectionsValid', WHERE WHAT IT READS IS OF BULK AT MOST 1048576: true; the input reads as it did. -/
def fnSectionsValidUptoRow : OpenClaim := { program := "ytfacohicfcdamaa", sum := "993973bd7c8f675773291ecd0a99a4fce96329e4be9893cde5ef84c235b9a980", func := "loop.example/deadlinescheduler/laws.FnSectionsValid", spec := "fnSectionsValid", unfollowed := true, recurses := true, apart := false, narrowed := true }
def FnSectionsValidUptoSaid : Prop := fnSectionsValidUptoRow.holds Try.pinned (OpenSpec.upto fnSectionsValidSpec)

/-- 'laws.FnCeilings', WHERE WHAT IT READS IS OF BULK AT MOST 1048576: true; the input reads as it did. -/
def fnCeilingsUptoRow : OpenClaim := { program := "ytfacohicfcdamaa", sum := "993973bd7c8f675773291ecd0a99a4fce96329e4be9893cde5ef84c235b9a980", func := "loop.example/deadlinescheduler/laws.FnCeilings", spec := "fnCeilings", unfollowed := true, recurses := true, apart := false, narrowed := true }
def FnCeilingsUptoSaid : Prop := fnCeilingsUptoRow.holds Try.pinned (OpenSpec.upto fnCeilingsSpec)

/-- 'laws.FnBlocking', WHERE WHAT IT READS IS OF BULK AT MOST 1048576: true; the input reads as it did. -/
def fnBlockingUptoRow : OpenClaim := { program := "ytfacohicfcdamaa", sum := "993973bd7c8f675773291ecd0a99a4fce96329e4be9893cde5ef84c235b9a980", func := "loop.example/deadlinescheduler/laws.FnBlocking", spec := "fnBlocking", unfollowed := true, recurses := true, apart := false, narrowed := true }
def FnBlockingUptoSaid : Prop := fnBlockingUptoRow.holds Try.pinned (OpenSpec.upto fnBlockingSpec)

/-- 'laws.FnResourcesFeasible', WHERE WHAT IT READS IS OF BULK AT MOST 1048576: true; the input reads as it did. -/
def fnResourcesFeasibleUptoRow : OpenClaim := { program := "ytfacohicfcdamaa", sum := "993973bd7c8f675773291ecd0a99a4fce96329e4be9893cde5ef84c235b9a980", func := "loop.example/deadlinescheduler/laws.FnResourcesFeasible", spec := "fnResourcesFeasible", unfollowed := true, recurses := true, apart := false, narrowed := true }
def FnResourcesFeasibleUptoSaid : Prop := fnResourcesFeasibleUptoRow.holds Try.pinned (OpenSpec.upto fnResourcesFeasibleSpec)

end Rows
end Go.Proofs.Ytfacohicfcdamaa
