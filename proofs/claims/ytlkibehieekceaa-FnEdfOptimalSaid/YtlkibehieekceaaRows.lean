/-
  No cell of these rows narrows 'for every input' (looked for: loops, veiled, ifaces, maps, wideKeys, modest, calm, conditions, laid).
  DERIVED. THE GIVEN ROWS OF THIS SEAT. 8 by the template 'for every input the law returns true; each argument reads behind the call as it read before'; 0 by the template 'total and deterministic' (their statements: YtlkibehieekceaaTotals.lean).
  GIVEN WITH THE SEED: the statements are not yours to turn. If you find one false, say at which input.
  Laid BY PROGRAM, IN A SANDBOX (cutbox-rows.mjs): the forced cells as the released guide's own fill.sh prints them over the translation bb841802bb081d0d… (all of the seat's roots in one cut). By AI agents, Wed Nov 11 2026. No macro, syntax, notation, axiom, sorry.
-/
import Derived.Test.YtlkibehieekceaaChecked
import GoSem.Claim
import GoSem.ClaimJoined
import GoSem.ClaimMapViews
import Derived.JoinedTies
import Derived.KernelRfl
namespace Go.Proofs.Ytlkibehieekceaa
/- THE CELL 'sum', in the pinned program and in every row, IS THE sha256 OF THE DUMP (.gsa) THAT YtlkibehieekceaaProg.lean LOADS. Nothing in Lean hashes anything: it is a label: what it is worth is what the hold of that sum in a sandbox is worth. -/
noncomputable def Try.pinned : Pinned := { name := "ytlkibehieekceaa", sum := "bb841802bb081d0d16dcd460962de39c5c3705b9836c754598847e984f4dbf39", checked := Try.checked }
namespace Rows
def none {H : Type} : Left H := { results := [], args := [] }

/-- 'laws.FnExactRunEdf': WHATEVER THE INPUT: true; the input reads as it did. -/
def fnExactRunEdfSpec : ChangeSpec := { name := "fnExactRunEdf", fn := fun _ => fun
  | [d1, d2] => { results := [.lit (.bool true)], args := [d1, d2] }
  | _ => none }
def fnExactRunEdfRow : OpenClaim := { program := "ytlkibehieekceaa", sum := "bb841802bb081d0d16dcd460962de39c5c3705b9836c754598847e984f4dbf39", func := "loop.example/deadlinescheduler/laws.FnExactRunEdf", spec := "fnExactRunEdf", unfollowed := true, recurses := true, apart := false }
def FnExactRunEdfSaid : Prop := fnExactRunEdfRow.holds Try.pinned (OpenSpec.ofChange fnExactRunEdfSpec)

/-- ITS FALSE NEIGHBOUR: 'it returns false'. Refute it at one input. -/
def fnExactRunEdfWrong : ChangeSpec := { name := "fnExactRunEdf", fn := fun _ => fun
  | [d1, d2] => { results := [.lit (.bool false)], args := [d1, d2] }
  | _ => none }
def FnExactRunEdfWrongFalsely : Prop := fnExactRunEdfRow.holds Try.pinned (OpenSpec.ofChange fnExactRunEdfWrong)

/-- 'laws.FnRunEdf': WHATEVER THE INPUT: true; the input reads as it did. -/
def fnRunEdfSpec : ChangeSpec := { name := "fnRunEdf", fn := fun _ => fun
  | [d] => { results := [.lit (.bool true)], args := [d] }
  | _ => none }
def fnRunEdfRow : OpenClaim := { program := "ytlkibehieekceaa", sum := "bb841802bb081d0d16dcd460962de39c5c3705b9836c754598847e984f4dbf39", func := "loop.example/deadlinescheduler/laws.FnRunEdf", spec := "fnRunEdf", unfollowed := true, recurses := true, apart := false }
def FnRunEdfSaid : Prop := fnRunEdfRow.holds Try.pinned (OpenSpec.ofChange fnRunEdfSpec)

/-- ITS FALSE NEIGHBOUR: 'it returns false'. Refute it at one input. -/
def fnRunEdfWrong : ChangeSpec := { name := "fnRunEdf", fn := fun _ => fun
  | [d] => { results := [.lit (.bool false)], args := [d] }
  | _ => none }
def FnRunEdfWrongFalsely : Prop := fnRunEdfRow.holds Try.pinned (OpenSpec.ofChange fnRunEdfWrong)

/-- 'laws.FnRunEdfChoice': WHATEVER THE INPUT: true; the input reads as it did. -/
def fnRunEdfChoiceSpec : ChangeSpec := { name := "fnRunEdfChoice", fn := fun _ => fun
  | [d] => { results := [.lit (.bool true)], args := [d] }
  | _ => none }
def fnRunEdfChoiceRow : OpenClaim := { program := "ytlkibehieekceaa", sum := "bb841802bb081d0d16dcd460962de39c5c3705b9836c754598847e984f4dbf39", func := "loop.example/deadlinescheduler/laws.FnRunEdfChoice", spec := "fnRunEdfChoice", unfollowed := true, recurses := true, apart := false }
def FnRunEdfChoiceSaid : Prop := fnRunEdfChoiceRow.holds Try.pinned (OpenSpec.ofChange fnRunEdfChoiceSpec)

/-- ITS FALSE NEIGHBOUR: 'it returns false'. Refute it at one input. -/
def fnRunEdfChoiceWrong : ChangeSpec := { name := "fnRunEdfChoice", fn := fun _ => fun
  | [d] => { results := [.lit (.bool false)], args := [d] }
  | _ => none }
def FnRunEdfChoiceWrongFalsely : Prop := fnRunEdfChoiceRow.holds Try.pinned (OpenSpec.ofChange fnRunEdfChoiceWrong)

/-- 'laws.FnRunEdfPast': WHATEVER THE INPUT: true; the input reads as it did. -/
def fnRunEdfPastSpec : ChangeSpec := { name := "fnRunEdfPast", fn := fun _ => fun
  | [d] => { results := [.lit (.bool true)], args := [d] }
  | _ => none }
def fnRunEdfPastRow : OpenClaim := { program := "ytlkibehieekceaa", sum := "bb841802bb081d0d16dcd460962de39c5c3705b9836c754598847e984f4dbf39", func := "loop.example/deadlinescheduler/laws.FnRunEdfPast", spec := "fnRunEdfPast", unfollowed := true, recurses := true, apart := false }
def FnRunEdfPastSaid : Prop := fnRunEdfPastRow.holds Try.pinned (OpenSpec.ofChange fnRunEdfPastSpec)

/-- ITS FALSE NEIGHBOUR: 'it returns false'. Refute it at one input. -/
def fnRunEdfPastWrong : ChangeSpec := { name := "fnRunEdfPast", fn := fun _ => fun
  | [d] => { results := [.lit (.bool false)], args := [d] }
  | _ => none }
def FnRunEdfPastWrongFalsely : Prop := fnRunEdfPastRow.holds Try.pinned (OpenSpec.ofChange fnRunEdfPastWrong)

/-- 'laws.FnEdfSafe': WHATEVER THE INPUT: true; the input reads as it did. -/
def fnEdfSafeSpec : ChangeSpec := { name := "fnEdfSafe", fn := fun _ => fun
  | [d] => { results := [.lit (.bool true)], args := [d] }
  | _ => none }
def fnEdfSafeRow : OpenClaim := { program := "ytlkibehieekceaa", sum := "bb841802bb081d0d16dcd460962de39c5c3705b9836c754598847e984f4dbf39", func := "loop.example/deadlinescheduler/laws.FnEdfSafe", spec := "fnEdfSafe", unfollowed := true, recurses := true, apart := false }
def FnEdfSafeSaid : Prop := fnEdfSafeRow.holds Try.pinned (OpenSpec.ofChange fnEdfSafeSpec)

/-- ITS FALSE NEIGHBOUR: 'it returns false'. Refute it at one input. -/
def fnEdfSafeWrong : ChangeSpec := { name := "fnEdfSafe", fn := fun _ => fun
  | [d] => { results := [.lit (.bool false)], args := [d] }
  | _ => none }
def FnEdfSafeWrongFalsely : Prop := fnEdfSafeRow.holds Try.pinned (OpenSpec.ofChange fnEdfSafeWrong)

/-- 'laws.FnEdfExact': WHATEVER THE INPUT: true; the input reads as it did. -/
def fnEdfExactSpec : ChangeSpec := { name := "fnEdfExact", fn := fun _ => fun
  | [d] => { results := [.lit (.bool true)], args := [d] }
  | _ => none }
def fnEdfExactRow : OpenClaim := { program := "ytlkibehieekceaa", sum := "bb841802bb081d0d16dcd460962de39c5c3705b9836c754598847e984f4dbf39", func := "loop.example/deadlinescheduler/laws.FnEdfExact", spec := "fnEdfExact", unfollowed := true, recurses := true, apart := false }
def FnEdfExactSaid : Prop := fnEdfExactRow.holds Try.pinned (OpenSpec.ofChange fnEdfExactSpec)

/-- ITS FALSE NEIGHBOUR: 'it returns false'. Refute it at one input. -/
def fnEdfExactWrong : ChangeSpec := { name := "fnEdfExact", fn := fun _ => fun
  | [d] => { results := [.lit (.bool false)], args := [d] }
  | _ => none }
def FnEdfExactWrongFalsely : Prop := fnEdfExactRow.holds Try.pinned (OpenSpec.ofChange fnEdfExactWrong)

/-- 'laws.FnEdfOptimal': WHATEVER THE INPUT: true; the input reads as it did. -/
def fnEdfOptimalSpec : ChangeSpec := { name := "fnEdfOptimal", fn := fun _ => fun
  | [d] => { results := [.lit (.bool true)], args := [d] }
  | _ => none }
def fnEdfOptimalRow : OpenClaim := { program := "ytlkibehieekceaa", sum := "bb841802bb081d0d16dcd460962de39c5c3705b9836c754598847e984f4dbf39", func := "loop.example/deadlinescheduler/laws.FnEdfOptimal", spec := "fnEdfOptimal", unfollowed := true, recurses := true, apart := false }
def FnEdfOptimalSaid : Prop := fnEdfOptimalRow.holds Try.pinned (OpenSpec.ofChange fnEdfOptimalSpec)

/-- ITS FALSE NEIGHBOUR: 'it returns false'. Refute it at one input. -/
def fnEdfOptimalWrong : ChangeSpec := { name := "fnEdfOptimal", fn := fun _ => fun
  | [d] => { results := [.lit (.bool false)], args := [d] }
  | _ => none }
def FnEdfOptimalWrongFalsely : Prop := fnEdfOptimalRow.holds Try.pinned (OpenSpec.ofChange fnEdfOptimalWrong)

/-- 'laws.FnServerIdle': WHATEVER THE INPUT: true; the input reads as it did. -/
def fnServerIdleSpec : ChangeSpec := { name := "fnServerIdle", fn := fun _ => fun
  | [d] => { results := [.lit (.bool true)], args := [d] }
  | _ => none }
def fnServerIdleRow : OpenClaim := { program := "ytlkibehieekceaa", sum := "bb841802bb081d0d16dcd460962de39c5c3705b9836c754598847e984f4dbf39", func := "loop.example/deadlinescheduler/laws.FnServerIdle", spec := "fnServerIdle", unfollowed := true, recurses := true, apart := false }
def FnServerIdleSaid : Prop := fnServerIdleRow.holds Try.pinned (OpenSpec.ofChange fnServerIdleSpec)

/-- ITS FALSE NEIGHBOUR: 'it returns false'. Refute it at one input. -/
def fnServerIdleWrong : ChangeSpec := { name := "fnServerIdle", fn := fun _ => fun
  | [d] => { results := [.lit (.bool false)], args := [d] }
  | _ => none }
def FnServerIdleWrongFalsely : Prop := fnServerIdleRow.holds Try.pinned (OpenSpec.ofChange fnServerIdleWrong)

/- THE SECOND FORM. 'bulk': how many values and letters a reading holds, each counted each time it is reached (what is shared counts as often as it is met; a slice's spare places count too). A statement '..UptoSaid' is the law's where the arguments, and the package variables that the reading takes, are together of bulk at most 1048576: NARROWER than '..Said'. Prove '..Said' where nothing that the law and all that it calls make is longer than what came in: it says more and counts as full. Else prove '..UptoSaid'. A law counts once. -/
mutual
def uptoBulk {H : Type} : DataW H → Nat
  | .lit (.string bytes) => bytes.length + 1
  | .lit _ => 1
  | .nil => 1
  | .ptr d => uptoBulk d + 1
  | .slice elems spare => uptoBulkAll elems + uptoBulkAll spare + 1
  | .agg parts => uptoBulkAll parts + 1
  | .iface _ d => uptoBulk d + 1
  | .map entries => uptoBulkEntries entries + 1
  | .held _ => 1
def uptoBulkAll {H : Type} : List (DataW H) → Nat
  | [] => 0
  | d :: r => uptoBulk d + uptoBulkAll r
def uptoBulkEntries {H : Type} : List (Lit × DataW H) → Nat
  | [] => 0
  | x :: r => uptoBulkEntry x + uptoBulkEntries r
def uptoBulkEntry {H : Type} : Lit × DataW H → Nat
  | (.string bytes, d) => bytes.length + uptoBulk d + 1
  | (_, d) => uptoBulk d + 1
 end
def uptoSmall : (H : Type) → List (DataW H) → Bool := fun _ ds => decide (uptoBulkAll ds ≤ 1048576)
def OpenSpec.upto (s : _root_.Go.ChangeSpec) : _root_.Go.OpenSpec := { _root_.Go.OpenSpec.ofChange s with cond := some uptoSmall }

/-- 'laws.FnExactRunEdf', WHERE WHAT IT READS IS OF BULK AT MOST 1048576: true; the input reads as it did. -/
def fnExactRunEdfUptoRow : OpenClaim := { program := "ytlkibehieekceaa", sum := "bb841802bb081d0d16dcd460962de39c5c3705b9836c754598847e984f4dbf39", func := "loop.example/deadlinescheduler/laws.FnExactRunEdf", spec := "fnExactRunEdf", unfollowed := true, recurses := true, apart := false, narrowed := true }
def FnExactRunEdfUptoSaid : Prop := fnExactRunEdfUptoRow.holds Try.pinned (OpenSpec.upto fnExactRunEdfSpec)

/-- 'laws.FnRunEdf', WHERE WHAT IT READS IS OF BULK AT MOST 1048576: true; the input reads as it did. -/
def fnRunEdfUptoRow : OpenClaim := { program := "ytlkibehieekceaa", sum := "bb841802bb081d0d16dcd460962de39c5c3705b9836c754598847e984f4dbf39", func := "loop.example/deadlinescheduler/laws.FnRunEdf", spec := "fnRunEdf", unfollowed := true, recurses := true, apart := false, narrowed := true }
def FnRunEdfUptoSaid : Prop := fnRunEdfUptoRow.holds Try.pinned (OpenSpec.upto fnRunEdfSpec)

/-- 'laws.FnRunEdfChoice', WHERE WHAT IT READS IS OF BULK AT MOST 1048576: true; the input reads as it did. -/
def fnRunEdfChoiceUptoRow : OpenClaim := { program := "ytlkibehieekceaa", sum := "bb841802bb081d0d16dcd460962de39c5c3705b9836c754598847e984f4dbf39", func := "loop.example/deadlinescheduler/laws.FnRunEdfChoice", spec := "fnRunEdfChoice", unfollowed := true, recurses := true, apart := false, narrowed := true }
def FnRunEdfChoiceUptoSaid : Prop := fnRunEdfChoiceUptoRow.holds Try.pinned (OpenSpec.upto fnRunEdfChoiceSpec)

/-- 'laws.FnRunEdfPast', WHERE WHAT IT READS IS OF BULK AT MOST 1048576: true; the input reads as it did. -/
def fnRunEdfPastUptoRow : OpenClaim := { program := "ytlkibehieekceaa", sum := "bb841802bb081d0d16dcd460962de39c5c3705b9836c754598847e984f4dbf39", func := "loop.example/deadlinescheduler/laws.FnRunEdfPast", spec := "fnRunEdfPast", unfollowed := true, recurses := true, apart := false, narrowed := true }
def FnRunEdfPastUptoSaid : Prop := fnRunEdfPastUptoRow.holds Try.pinned (OpenSpec.upto fnRunEdfPastSpec)

/-- 'laws.FnEdfSafe', WHERE WHAT IT READS IS OF BULK AT MOST 1048576: true; the input reads as it did. -/
def fnEdfSafeUptoRow : OpenClaim := { program := "ytlkibehieekceaa", sum := "bb841802bb081d0d16dcd460962de39c5c3705b9836c754598847e984f4dbf39", func := "loop.example/deadlinescheduler/laws.FnEdfSafe", spec := "fnEdfSafe", unfollowed := true, recurses := true, apart := false, narrowed := true }
def FnEdfSafeUptoSaid : Prop := fnEdfSafeUptoRow.holds Try.pinned (OpenSpec.upto fnEdfSafeSpec)

/-- 'laws.FnEdfExact', WHERE WHAT IT READS IS OF BULK AT MOST 1048576: true; the input reads as it did. -/
def fnEdfExactUptoRow : OpenClaim := { program := "ytlkibehieekceaa", sum := "bb841802bb081d0d16dcd460962de39c5c3705b9836c754598847e984f4dbf39", func := "loop.example/deadlinescheduler/laws.FnEdfExact", spec := "fnEdfExact", unfollowed := true, recurses := true, apart := false, narrowed := true }
def FnEdfExactUptoSaid : Prop := fnEdfExactUptoRow.holds Try.pinned (OpenSpec.upto fnEdfExactSpec)

/-- 'laws.FnEdfOptimal', WHERE WHAT IT READS IS OF BULK AT MOST 1048576: true; the input reads as it did. -/
def fnEdfOptimalUptoRow : OpenClaim := { program := "ytlkibehieekceaa", sum := "bb841802bb081d0d16dcd460962de39c5c3705b9836c754598847e984f4dbf39", func := "loop.example/deadlinescheduler/laws.FnEdfOptimal", spec := "fnEdfOptimal", unfollowed := true, recurses := true, apart := false, narrowed := true }
def FnEdfOptimalUptoSaid : Prop := fnEdfOptimalUptoRow.holds Try.pinned (OpenSpec.upto fnEdfOptimalSpec)

/-- 'laws.FnServerIdle', WHERE WHAT IT READS IS OF BULK AT MOST 1048576: true; the input reads as it did. -/
def fnServerIdleUptoRow : OpenClaim := { program := "ytlkibehieekceaa", sum := "bb841802bb081d0d16dcd460962de39c5c3705b9836c754598847e984f4dbf39", func := "loop.example/deadlinescheduler/laws.FnServerIdle", spec := "fnServerIdle", unfollowed := true, recurses := true, apart := false, narrowed := true }
def FnServerIdleUptoSaid : Prop := fnServerIdleUptoRow.holds Try.pinned (OpenSpec.upto fnServerIdleSpec)

end Rows
end Go.Proofs.Ytlkibehieekceaa
