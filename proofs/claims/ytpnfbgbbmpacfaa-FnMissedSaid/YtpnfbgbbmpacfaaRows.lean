/-
  No cell of these rows narrows 'for every input' (looked for: loops, veiled, ifaces, maps, wideKeys, modest, calm, conditions, laid).
  DERIVED. THE GIVEN ROWS OF THIS SEAT. 11 by the template 'for every input the law returns true; each argument reads behind the call as it read before'; 0 by the template 'total and deterministic' (their statements: YtpnfbgbbmpacfaaTotals.lean).
  GIVEN WITH THE SEED: the statements are not yours to turn. If you find one false, say at which input.
  Laid BY PROGRAM, IN A SANDBOX (cutbox-rows.mjs): the forced cells as the released guide's own fill.sh prints them over the translation 2f8d740c0e75dcdd… (all of the seat's roots in one cut). By AI agents, Wed Nov 11 2026. No macro, syntax, notation, axiom, sorry.
-/
import Derived.Test.YtpnfbgbbmpacfaaChecked
import GoSem.Claim
import GoSem.ClaimJoined
import GoSem.ClaimMapViews
import Derived.JoinedTies
import Derived.KernelRfl
namespace Go.Proofs.Ytpnfbgbbmpacfaa
/- THE CELL 'sum', in the pinned program and in every row, IS THE sha256 OF THE DUMP (.gsa) THAT YtpnfbgbbmpacfaaProg.lean LOADS. Nothing in Lean hashes anything: it is a label: what it is worth is what the hold of that sum in a sandbox is worth. -/
noncomputable def Try.pinned : Pinned := { name := "ytpnfbgbbmpacfaa", sum := "2f8d740c0e75dcdd1543407c403969fd96f301ead6e3cb50f9c8a0f8d512863f", checked := Try.checked }
namespace Rows
def none {H : Type} : Left H := { results := [], args := [] }

/-- 'laws.FnJobsLegal': WHATEVER THE INPUT: true; the input reads as it did. -/
def fnJobsLegalSpec : ChangeSpec := { name := "fnJobsLegal", fn := fun _ => fun
  | [d] => { results := [.lit (.bool true)], args := [d] }
  | _ => none }
def fnJobsLegalRow : OpenClaim := { program := "ytpnfbgbbmpacfaa", sum := "2f8d740c0e75dcdd1543407c403969fd96f301ead6e3cb50f9c8a0f8d512863f", func := "loop.example/deadlinescheduler/laws.FnJobsLegal", spec := "fnJobsLegal", unfollowed := true, recurses := true, apart := false }
def FnJobsLegalSaid : Prop := fnJobsLegalRow.holds Try.pinned (OpenSpec.ofChange fnJobsLegalSpec)

/-- ITS FALSE NEIGHBOUR: 'it returns false'. Refute it at one input. -/
def fnJobsLegalWrong : ChangeSpec := { name := "fnJobsLegal", fn := fun _ => fun
  | [d] => { results := [.lit (.bool false)], args := [d] }
  | _ => none }
def FnJobsLegalWrongFalsely : Prop := fnJobsLegalRow.holds Try.pinned (OpenSpec.ofChange fnJobsLegalWrong)

/-- 'laws.FnSynchronous': WHATEVER THE INPUT: true; the input reads as it did. -/
def fnSynchronousSpec : ChangeSpec := { name := "fnSynchronous", fn := fun _ => fun
  | [d] => { results := [.lit (.bool true)], args := [d] }
  | _ => none }
def fnSynchronousRow : OpenClaim := { program := "ytpnfbgbbmpacfaa", sum := "2f8d740c0e75dcdd1543407c403969fd96f301ead6e3cb50f9c8a0f8d512863f", func := "loop.example/deadlinescheduler/laws.FnSynchronous", spec := "fnSynchronous", unfollowed := true, recurses := true, apart := false }
def FnSynchronousSaid : Prop := fnSynchronousRow.holds Try.pinned (OpenSpec.ofChange fnSynchronousSpec)

/-- ITS FALSE NEIGHBOUR: 'it returns false'. Refute it at one input. -/
def fnSynchronousWrong : ChangeSpec := { name := "fnSynchronous", fn := fun _ => fun
  | [d] => { results := [.lit (.bool false)], args := [d] }
  | _ => none }
def FnSynchronousWrongFalsely : Prop := fnSynchronousRow.holds Try.pinned (OpenSpec.ofChange fnSynchronousWrong)

/-- 'laws.FnRunEdf': WHATEVER THE INPUT: true; the input reads as it did. -/
def fnRunEdfSpec : ChangeSpec := { name := "fnRunEdf", fn := fun _ => fun
  | [d] => { results := [.lit (.bool true)], args := [d] }
  | _ => none }
def fnRunEdfRow : OpenClaim := { program := "ytpnfbgbbmpacfaa", sum := "2f8d740c0e75dcdd1543407c403969fd96f301ead6e3cb50f9c8a0f8d512863f", func := "loop.example/deadlinescheduler/laws.FnRunEdf", spec := "fnRunEdf", unfollowed := true, recurses := true, apart := false }
def FnRunEdfSaid : Prop := fnRunEdfRow.holds Try.pinned (OpenSpec.ofChange fnRunEdfSpec)

/-- ITS FALSE NEIGHBOUR: 'it returns false'. Refute it at one input. -/
def fnRunEdfWrong : ChangeSpec := { name := "fnRunEdf", fn := fun _ => fun
  | [d] => { results := [.lit (.bool false)], args := [d] }
  | _ => none }
def FnRunEdfWrongFalsely : Prop := fnRunEdfRow.holds Try.pinned (OpenSpec.ofChange fnRunEdfWrong)

/-- 'laws.FnEdfSafe': WHATEVER THE INPUT: true; the input reads as it did. -/
def fnEdfSafeSpec : ChangeSpec := { name := "fnEdfSafe", fn := fun _ => fun
  | [d] => { results := [.lit (.bool true)], args := [d] }
  | _ => none }
def fnEdfSafeRow : OpenClaim := { program := "ytpnfbgbbmpacfaa", sum := "2f8d740c0e75dcdd1543407c403969fd96f301ead6e3cb50f9c8a0f8d512863f", func := "loop.example/deadlinescheduler/laws.FnEdfSafe", spec := "fnEdfSafe", unfollowed := true, recurses := true, apart := false }
def FnEdfSafeSaid : Prop := fnEdfSafeRow.holds Try.pinned (OpenSpec.ofChange fnEdfSafeSpec)

/-- ITS FALSE NEIGHBOUR: 'it returns false'. Refute it at one input. -/
def fnEdfSafeWrong : ChangeSpec := { name := "fnEdfSafe", fn := fun _ => fun
  | [d] => { results := [.lit (.bool false)], args := [d] }
  | _ => none }
def FnEdfSafeWrongFalsely : Prop := fnEdfSafeRow.holds Try.pinned (OpenSpec.ofChange fnEdfSafeWrong)

/-- 'laws.FnMissed': WHATEVER THE INPUT: true; the input reads as it did. -/
def fnMissedSpec : ChangeSpec := { name := "fnMissed", fn := fun _ => fun
  | [d] => { results := [.lit (.bool true)], args := [d] }
  | _ => none }
def fnMissedRow : OpenClaim := { program := "ytpnfbgbbmpacfaa", sum := "2f8d740c0e75dcdd1543407c403969fd96f301ead6e3cb50f9c8a0f8d512863f", func := "loop.example/deadlinescheduler/laws.FnMissed", spec := "fnMissed", apart := false }
def FnMissedSaid : Prop := fnMissedRow.holds Try.pinned (OpenSpec.ofChange fnMissedSpec)

/-- ITS FALSE NEIGHBOUR: 'it returns false'. Refute it at one input. -/
def fnMissedWrong : ChangeSpec := { name := "fnMissed", fn := fun _ => fun
  | [d] => { results := [.lit (.bool false)], args := [d] }
  | _ => none }
def FnMissedWrongFalsely : Prop := fnMissedRow.holds Try.pinned (OpenSpec.ofChange fnMissedWrong)

/-- 'laws.FnRunEdfChoice': WHATEVER THE INPUT: true; the input reads as it did. -/
def fnRunEdfChoiceSpec : ChangeSpec := { name := "fnRunEdfChoice", fn := fun _ => fun
  | [d] => { results := [.lit (.bool true)], args := [d] }
  | _ => none }
def fnRunEdfChoiceRow : OpenClaim := { program := "ytpnfbgbbmpacfaa", sum := "2f8d740c0e75dcdd1543407c403969fd96f301ead6e3cb50f9c8a0f8d512863f", func := "loop.example/deadlinescheduler/laws.FnRunEdfChoice", spec := "fnRunEdfChoice", unfollowed := true, recurses := true, apart := false }
def FnRunEdfChoiceSaid : Prop := fnRunEdfChoiceRow.holds Try.pinned (OpenSpec.ofChange fnRunEdfChoiceSpec)

/-- ITS FALSE NEIGHBOUR: 'it returns false'. Refute it at one input. -/
def fnRunEdfChoiceWrong : ChangeSpec := { name := "fnRunEdfChoice", fn := fun _ => fun
  | [d] => { results := [.lit (.bool false)], args := [d] }
  | _ => none }
def FnRunEdfChoiceWrongFalsely : Prop := fnRunEdfChoiceRow.holds Try.pinned (OpenSpec.ofChange fnRunEdfChoiceWrong)

/-- 'laws.FnRunEdfPast': WHATEVER THE INPUT: true; the input reads as it did. -/
def fnRunEdfPastSpec : ChangeSpec := { name := "fnRunEdfPast", fn := fun _ => fun
  | [d] => { results := [.lit (.bool true)], args := [d] }
  | _ => none }
def fnRunEdfPastRow : OpenClaim := { program := "ytpnfbgbbmpacfaa", sum := "2f8d740c0e75dcdd1543407c403969fd96f301ead6e3cb50f9c8a0f8d512863f", func := "loop.example/deadlinescheduler/laws.FnRunEdfPast", spec := "fnRunEdfPast", unfollowed := true, recurses := true, apart := false }
def FnRunEdfPastSaid : Prop := fnRunEdfPastRow.holds Try.pinned (OpenSpec.ofChange fnRunEdfPastSpec)

/-- ITS FALSE NEIGHBOUR: 'it returns false'. Refute it at one input. -/
def fnRunEdfPastWrong : ChangeSpec := { name := "fnRunEdfPast", fn := fun _ => fun
  | [d] => { results := [.lit (.bool false)], args := [d] }
  | _ => none }
def FnRunEdfPastWrongFalsely : Prop := fnRunEdfPastRow.holds Try.pinned (OpenSpec.ofChange fnRunEdfPastWrong)

/-- 'laws.FnExactJobsLegal': WHATEVER THE INPUT: true; the input reads as it did. -/
def fnExactJobsLegalSpec : ChangeSpec := { name := "fnExactJobsLegal", fn := fun _ => fun
  | [d1, d2] => { results := [.lit (.bool true)], args := [d1, d2] }
  | _ => none }
def fnExactJobsLegalRow : OpenClaim := { program := "ytpnfbgbbmpacfaa", sum := "2f8d740c0e75dcdd1543407c403969fd96f301ead6e3cb50f9c8a0f8d512863f", func := "loop.example/deadlinescheduler/laws.FnExactJobsLegal", spec := "fnExactJobsLegal", unfollowed := true, recurses := true, apart := false }
def FnExactJobsLegalSaid : Prop := fnExactJobsLegalRow.holds Try.pinned (OpenSpec.ofChange fnExactJobsLegalSpec)

/-- ITS FALSE NEIGHBOUR: 'it returns false'. Refute it at one input. -/
def fnExactJobsLegalWrong : ChangeSpec := { name := "fnExactJobsLegal", fn := fun _ => fun
  | [d1, d2] => { results := [.lit (.bool false)], args := [d1, d2] }
  | _ => none }
def FnExactJobsLegalWrongFalsely : Prop := fnExactJobsLegalRow.holds Try.pinned (OpenSpec.ofChange fnExactJobsLegalWrong)

/-- 'laws.FnExactSynchronous': WHATEVER THE INPUT: true; the input reads as it did. -/
def fnExactSynchronousSpec : ChangeSpec := { name := "fnExactSynchronous", fn := fun _ => fun
  | [d1, d2] => { results := [.lit (.bool true)], args := [d1, d2] }
  | _ => none }
def fnExactSynchronousRow : OpenClaim := { program := "ytpnfbgbbmpacfaa", sum := "2f8d740c0e75dcdd1543407c403969fd96f301ead6e3cb50f9c8a0f8d512863f", func := "loop.example/deadlinescheduler/laws.FnExactSynchronous", spec := "fnExactSynchronous", unfollowed := true, recurses := true, apart := false }
def FnExactSynchronousSaid : Prop := fnExactSynchronousRow.holds Try.pinned (OpenSpec.ofChange fnExactSynchronousSpec)

/-- ITS FALSE NEIGHBOUR: 'it returns false'. Refute it at one input. -/
def fnExactSynchronousWrong : ChangeSpec := { name := "fnExactSynchronous", fn := fun _ => fun
  | [d1, d2] => { results := [.lit (.bool false)], args := [d1, d2] }
  | _ => none }
def FnExactSynchronousWrongFalsely : Prop := fnExactSynchronousRow.holds Try.pinned (OpenSpec.ofChange fnExactSynchronousWrong)

/-- 'laws.FnExactRunEdf': WHATEVER THE INPUT: true; the input reads as it did. -/
def fnExactRunEdfSpec : ChangeSpec := { name := "fnExactRunEdf", fn := fun _ => fun
  | [d1, d2] => { results := [.lit (.bool true)], args := [d1, d2] }
  | _ => none }
def fnExactRunEdfRow : OpenClaim := { program := "ytpnfbgbbmpacfaa", sum := "2f8d740c0e75dcdd1543407c403969fd96f301ead6e3cb50f9c8a0f8d512863f", func := "loop.example/deadlinescheduler/laws.FnExactRunEdf", spec := "fnExactRunEdf", unfollowed := true, recurses := true, apart := false }
def FnExactRunEdfSaid : Prop := fnExactRunEdfRow.holds Try.pinned (OpenSpec.ofChange fnExactRunEdfSpec)

/-- ITS FALSE NEIGHBOUR: 'it returns false'. Refute it at one input. -/
def fnExactRunEdfWrong : ChangeSpec := { name := "fnExactRunEdf", fn := fun _ => fun
  | [d1, d2] => { results := [.lit (.bool false)], args := [d1, d2] }
  | _ => none }
def FnExactRunEdfWrongFalsely : Prop := fnExactRunEdfRow.holds Try.pinned (OpenSpec.ofChange fnExactRunEdfWrong)

/-- 'laws.FnExactMissed': WHATEVER THE INPUT: true; the input reads as it did. -/
def fnExactMissedSpec : ChangeSpec := { name := "fnExactMissed", fn := fun _ => fun
  | [d1, d2] => { results := [.lit (.bool true)], args := [d1, d2] }
  | _ => none }
def fnExactMissedRow : OpenClaim := { program := "ytpnfbgbbmpacfaa", sum := "2f8d740c0e75dcdd1543407c403969fd96f301ead6e3cb50f9c8a0f8d512863f", func := "loop.example/deadlinescheduler/laws.FnExactMissed", spec := "fnExactMissed", apart := false }
def FnExactMissedSaid : Prop := fnExactMissedRow.holds Try.pinned (OpenSpec.ofChange fnExactMissedSpec)

/-- ITS FALSE NEIGHBOUR: 'it returns false'. Refute it at one input. -/
def fnExactMissedWrong : ChangeSpec := { name := "fnExactMissed", fn := fun _ => fun
  | [d1, d2] => { results := [.lit (.bool false)], args := [d1, d2] }
  | _ => none }
def FnExactMissedWrongFalsely : Prop := fnExactMissedRow.holds Try.pinned (OpenSpec.ofChange fnExactMissedWrong)

/- THE SECOND FORM. 'bulk': how many values and letters a reading holds, each counted each time it is reached (what is shared counts as often as it is met; a slice's spare places count too). A statement '..UptoSaid' is the law's where the arguments, and the package variables that the reading takes, are together of bulk at most 1048576: NARROWER than '..Said'. Prove '..Said' where nothing that the law and all that it calls make is longer than what came in: it says more and counts as full. Else prove '..UptoSaid'. A law counts once. -/
mutual
def uptoBulk {H : Type} : DataW H → Nat
  | .lit (.string bytes) => bytes.length + 1
  | .lit _ => 1
  | .nil => 1
  | .ptr d => uptoBulk d + 1
  | .slice elems spare => uptoBulkAll elems + uptoBulkAll spare + 1
  | .agg parts => uptoBulkAll parts + 1
  | .iface _ d => uptoBulk d + 1
  | .map entries => uptoBulkEntries entries + 1
  | .held _ => 1
def uptoBulkAll {H : Type} : List (DataW H) → Nat
  | [] => 0
  | d :: r => uptoBulk d + uptoBulkAll r
def uptoBulkEntries {H : Type} : List (Lit × DataW H) → Nat
  | [] => 0
  | x :: r => uptoBulkEntry x + uptoBulkEntries r
def uptoBulkEntry {H : Type} : Lit × DataW H → Nat
  | (.string bytes, d) => bytes.length + uptoBulk d + 1
  | (_, d) => uptoBulk d + 1
 end
def uptoSmall : (H : Type) → List (DataW H) → Bool := fun _ ds => decide (uptoBulkAll ds ≤ 1048576)
def OpenSpec.upto (s : _root_.Go.ChangeSpec) : _root_.Go.OpenSpec := { _root_.Go.OpenSpec.ofChange s with cond := some uptoSmall }

/-- 'laws.FnJobsLegal', WHERE WHAT IT READS IS OF BULK AT MOST 1048576: true; the input reads as it did. -/
def fnJobsLegalUptoRow : OpenClaim := { program := "ytpnfbgbbmpacfaa", sum := "2f8d740c0e75dcdd1543407c403969fd96f301ead6e3cb50f9c8a0f8d512863f", func := "loop.example/deadlinescheduler/laws.FnJobsLegal", spec := "fnJobsLegal", unfollowed := true, recurses := true, apart := false, narrowed := true }
def FnJobsLegalUptoSaid : Prop := fnJobsLegalUptoRow.holds Try.pinned (OpenSpec.upto fnJobsLegalSpec)

/-- 'laws.FnSynchronous', WHERE WHAT IT READS IS OF BULK AT MOST 1048576: true; the input reads as it did. -/
def fnSynchronousUptoRow : OpenClaim := { program := "ytpnfbgbbmpacfaa", sum := "2f8d740c0e75dcdd1543407c403969fd96f301ead6e3cb50f9c8a0f8d512863f", func := "loop.example/deadlinescheduler/laws.FnSynchronous", spec := "fnSynchronous", unfollowed := true, recurses := true, apart := false, narrowed := true }
def FnSynchronousUptoSaid : Prop := fnSynchronousUptoRow.holds Try.pinned (OpenSpec.upto fnSynchronousSpec)

/-- 'laws.FnRunEdf', WHERE WHAT IT READS IS OF BULK AT MOST 1048576: true; the input reads as it did. -/
def fnRunEdfUptoRow : OpenClaim := { program := "ytpnfbgbbmpacfaa", sum := "2f8d740c0e75dcdd1543407c403969fd96f301ead6e3cb50f9c8a0f8d512863f", func := "loop.example/deadlinescheduler/laws.FnRunEdf", spec := "fnRunEdf", unfollowed := true, recurses := true, apart := false, narrowed := true }
def FnRunEdfUptoSaid : Prop := fnRunEdfUptoRow.holds Try.pinned (OpenSpec.upto fnRunEdfSpec)

/-- 'laws.FnEdfSafe', WHERE WHAT IT READS IS OF BULK AT MOST 1048576: true; the input reads as it did. -/
def fnEdfSafeUptoRow : OpenClaim := { program := "ytpnfbgbbmpacfaa", sum := "2f8d740c0e75dcdd1543407c403969fd96f301ead6e3cb50f9c8a0f8d512863f", func := "loop.example/deadlinescheduler/laws.FnEdfSafe", spec := "fnEdfSafe", unfollowed := true, recurses := true, apart := false, narrowed := true }
def FnEdfSafeUptoSaid : Prop := fnEdfSafeUptoRow.holds Try.pinned (OpenSpec.upto fnEdfSafeSpec)

/-- 'laws.FnMissed', WHERE WHAT IT READS IS OF BULK AT MOST 1048576: true; the input reads as it did. -/
def fnMissedUptoRow : OpenClaim := { program := "ytpnfbgbbmpacfaa", sum := "2f8d740c0e75dcdd1543407c403969fd96f301ead6e3cb50f9c8a0f8d512863f", func := "loop.example/deadlinescheduler/laws.FnMissed", spec := "fnMissed", apart := false, narrowed := true }
def FnMissedUptoSaid : Prop := fnMissedUptoRow.holds Try.pinned (OpenSpec.upto fnMissedSpec)

/-- 'laws.FnRunEdfChoice', WHERE WHAT IT READS IS OF BULK AT MOST 1048576: true; the input reads as it did. -/
def fnRunEdfChoiceUptoRow : OpenClaim := { program := "ytpnfbgbbmpacfaa", sum := "2f8d740c0e75dcdd1543407c403969fd96f301ead6e3cb50f9c8a0f8d512863f", func := "loop.example/deadlinescheduler/laws.FnRunEdfChoice", spec := "fnRunEdfChoice", unfollowed := true, recurses := true, apart := false, narrowed := true }
def FnRunEdfChoiceUptoSaid : Prop := fnRunEdfChoiceUptoRow.holds Try.pinned (OpenSpec.upto fnRunEdfChoiceSpec)

/-- 'laws.FnRunEdfPast', WHERE WHAT IT READS IS OF BULK AT MOST 1048576: true; the input reads as it did. -/
def fnRunEdfPastUptoRow : OpenClaim := { program := "ytpnfbgbbmpacfaa", sum := "2f8d740c0e75dcdd1543407c403969fd96f301ead6e3cb50f9c8a0f8d512863f", func := "loop.example/deadlinescheduler/laws.FnRunEdfPast", spec := "fnRunEdfPast", unfollowed := true, recurses := true, apart := false, narrowed := true }
def FnRunEdfPastUptoSaid : Prop := fnRunEdfPastUptoRow.holds Try.pinned (OpenSpec.upto fnRunEdfPastSpec)

/-- 'laws.FnExactJobsLegal', WHERE WHAT IT READS IS OF BULK AT MOST 1048576: true; the input reads as it did. -/
def fnExactJobsLegalUptoRow : OpenClaim := { program := "ytpnfbgbbmpacfaa", sum := "2f8d740c0e75dcdd1543407c403969fd96f301ead6e3cb50f9c8a0f8d512863f", func := "loop.example/deadlinescheduler/laws.FnExactJobsLegal", spec := "fnExactJobsLegal", unfollowed := true, recurses := true, apart := false, narrowed := true }
def FnExactJobsLegalUptoSaid : Prop := fnExactJobsLegalUptoRow.holds Try.pinned (OpenSpec.upto fnExactJobsLegalSpec)

/-- 'laws.FnExactSynchronous', WHERE WHAT IT READS IS OF BULK AT MOST 1048576: true; the input reads as it did. -/
def fnExactSynchronousUptoRow : OpenClaim := { program := "ytpnfbgbbmpacfaa", sum := "2f8d740c0e75dcdd1543407c403969fd96f301ead6e3cb50f9c8a0f8d512863f", func := "loop.example/deadlinescheduler/laws.FnExactSynchronous", spec := "fnExactSynchronous", unfollowed := true, recurses := true, apart := false, narrowed := true }
def FnExactSynchronousUptoSaid : Prop := fnExactSynchronousUptoRow.holds Try.pinned (OpenSpec.upto fnExactSynchronousSpec)

/-- 'laws.FnExactRunEdf', WHERE WHAT IT READS IS OF BULK AT MOST 1048576: true; the input reads as it did. -/
def fnExactRunEdfUptoRow : OpenClaim := { program := "ytpnfbgbbmpacfaa", sum := "2f8d740c0e75dcdd1543407c403969fd96f301ead6e3cb50f9c8a0f8d512863f", func := "loop.example/deadlinescheduler/laws.FnExactRunEdf", spec := "fnExactRunEdf", unfollowed := true, recurses := true, apart := false, narrowed := true }
def FnExactRunEdfUptoSaid : Prop := fnExactRunEdfUptoRow.holds Try.pinned (OpenSpec.upto fnExactRunEdfSpec)

/-- 'laws.FnExactMissed', WHERE WHAT IT READS IS OF BULK AT MOST 1048576: true; the input reads as it did. -/
def fnExactMissedUptoRow : OpenClaim := { program := "ytpnfbgbbmpacfaa", sum := "2f8d740c0e75dcdd1543407c403969fd96f301ead6e3cb50f9c8a0f8d512863f", func := "loop.example/deadlinescheduler/laws.FnExactMissed", spec := "fnExactMissed", apart := false, narrowed := true }
def FnExactMissedUptoSaid : Prop := fnExactMissedUptoRow.holds Try.pinned (OpenSpec.upto fnExactMissedSpec)

end Rows
end Go.Proofs.Ytpnfbgbbmpacfaa
