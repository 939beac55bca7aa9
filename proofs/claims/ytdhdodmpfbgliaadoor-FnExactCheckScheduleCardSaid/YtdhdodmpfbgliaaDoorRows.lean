/-
  NARROWER THAN 'FOR EVERY INPUT', by the rows' own cells (each row's printed sentence says how): FnCheckEdf: laid · FnCheckSound: laid · FnCheckTamper: laid · FnCheckLength: laid · FnExactCheckSchedule: laid.
  DERIVED. THE GIVEN ROWS OF THIS SEAT. 5 by the template 'for every input the law returns true; each argument reads behind the call as it read before'; 0 by the template 'total and deterministic' (their statements: YtdhdodmpfbgliaaDoorTotals.lean).
  GIVEN WITH THE SEED: the statements are not yours to turn. If you find one false, say at which input.
  Laid BY PROGRAM, IN A SANDBOX (cutbox-rows.mjs): the forced cells as the released guide's own fill.sh prints them over the translation 579b84f52ff61e26… (all of the seat's roots in one cut). By AI agents, Wed Nov 11 2026. No macro, syntax, notation, axiom, sorry.
-/
import Derived.Test.YtdhdodmpfbgliaaDoorChecked
import GoSem.Claim
import GoSem.ClaimJoined
import GoSem.ClaimMapViews
import Derived.JoinedTies
import Derived.KernelRfl
namespace Go.Proofs.YtdhdodmpfbgliaaDoor
/- THE CELL 'sum', in the pinned program and in every row, IS THE sha256 OF THE DUMP (.gsa) THAT YtdhdodmpfbgliaaDoorProg.lean LOADS. Nothing in Lean hashes anything: it is a label: what it is worth is what the hold of that sum in a sandbox is worth. -/
noncomputable def Tryd.pinned : Pinned := { name := "ytdhdodmpfbgliaadoor", sum := "579b84f52ff61e2656f371a56dbe8639e07b0deb78bb40e0c3ef7c825bbfca40", checked := Tryd.checked }
namespace Rows
def none {H : Type} : Left H := { results := [], args := [] }

/- WHAT THE LISTED PACKAGE-LEVEL VARIABLES READ AS WHEN THE CALL BEGINS. Each datum BY PROGRAM (the guide's laid-datum.mjs) off the statement by which the dump's own 'gosem.cut.vars' lays the variable. In a bare row this is a premise. The card (YtdhdodmpfbgliaaDoorCards.lean) ties it to the program's text. -/
def laid_errors_errorType {H : Type} : DataW H := .iface "internal/reflectlite.rtype" (.agg [.ptr (.lit (.string [101, 114, 114, 111, 114]))])

/-- 'laws.FnCheckEdf': WHATEVER THE INPUT: true; the input reads as it did. -/
def fnCheckEdfSpec : ChangeSpec := { name := "fnCheckEdf", fn := fun _ => fun
  | [d] => { results := [.lit (.bool true)], args := [d] }
  | _ => none }
def fnCheckEdfRow : OpenClaim := { program := "ytdhdodmpfbgliaadoor", sum := "579b84f52ff61e2656f371a56dbe8639e07b0deb78bb40e0c3ef7c825bbfca40", func := "loop.example/deadlinescheduler/laws.FnCheckEdf", spec := "fnCheckEdf", inPlace := ["internal/reflectlite.ValueOf", "(internal/reflectlite.Value).Type", "(internal/reflectlite.Value).IsNil", "internal/reflectlite.TypeOf", "(internal/reflectlite.Value).Elem", "(internal/reflectlite.Value).Set"], unfollowed := true, recurses := true, named := ["errors.errorType"], apart := false, laid := [("errors.errorType", laid_errors_errorType)] }
def FnCheckEdfSaid : Prop := fnCheckEdfRow.holds Tryd.pinned (OpenSpec.ofChange fnCheckEdfSpec)

/-- ITS FALSE NEIGHBOUR: 'it returns false'. Refute it at one input. -/
def fnCheckEdfWrong : ChangeSpec := { name := "fnCheckEdf", fn := fun _ => fun
  | [d] => { results := [.lit (.bool false)], args := [d] }
  | _ => none }
def FnCheckEdfWrongFalsely : Prop := fnCheckEdfRow.holds Tryd.pinned (OpenSpec.ofChange fnCheckEdfWrong)

/-- 'laws.FnCheckSound': WHATEVER THE INPUT: true; the input reads as it did. -/
def fnCheckSoundSpec : ChangeSpec := { name := "fnCheckSound", fn := fun _ => fun
  | [d] => { results := [.lit (.bool true)], args := [d] }
  | _ => none }
def fnCheckSoundRow : OpenClaim := { program := "ytdhdodmpfbgliaadoor", sum := "579b84f52ff61e2656f371a56dbe8639e07b0deb78bb40e0c3ef7c825bbfca40", func := "loop.example/deadlinescheduler/laws.FnCheckSound", spec := "fnCheckSound", inPlace := ["internal/reflectlite.ValueOf", "(internal/reflectlite.Value).Type", "(internal/reflectlite.Value).IsNil", "internal/reflectlite.TypeOf", "(internal/reflectlite.Value).Elem", "(internal/reflectlite.Value).Set"], unfollowed := true, recurses := true, named := ["errors.errorType"], apart := false, laid := [("errors.errorType", laid_errors_errorType)] }
def FnCheckSoundSaid : Prop := fnCheckSoundRow.holds Tryd.pinned (OpenSpec.ofChange fnCheckSoundSpec)

/-- ITS FALSE NEIGHBOUR: 'it returns false'. Refute it at one input. -/
def fnCheckSoundWrong : ChangeSpec := { name := "fnCheckSound", fn := fun _ => fun
  | [d] => { results := [.lit (.bool false)], args := [d] }
  | _ => none }
def FnCheckSoundWrongFalsely : Prop := fnCheckSoundRow.holds Tryd.pinned (OpenSpec.ofChange fnCheckSoundWrong)

/-- 'laws.FnCheckTamper': WHATEVER THE INPUT: true; the input reads as it did. -/
def fnCheckTamperSpec : ChangeSpec := { name := "fnCheckTamper", fn := fun _ => fun
  | [d] => { results := [.lit (.bool true)], args := [d] }
  | _ => none }
def fnCheckTamperRow : OpenClaim := { program := "ytdhdodmpfbgliaadoor", sum := "579b84f52ff61e2656f371a56dbe8639e07b0deb78bb40e0c3ef7c825bbfca40", func := "loop.example/deadlinescheduler/laws.FnCheckTamper", spec := "fnCheckTamper", inPlace := ["internal/reflectlite.ValueOf", "(internal/reflectlite.Value).Type", "(internal/reflectlite.Value).IsNil", "internal/reflectlite.TypeOf", "(internal/reflectlite.Value).Elem", "(internal/reflectlite.Value).Set"], unfollowed := true, recurses := true, named := ["errors.errorType"], apart := false, laid := [("errors.errorType", laid_errors_errorType)] }
def FnCheckTamperSaid : Prop := fnCheckTamperRow.holds Tryd.pinned (OpenSpec.ofChange fnCheckTamperSpec)

/-- ITS FALSE NEIGHBOUR: 'it returns false'. Refute it at one input. -/
def fnCheckTamperWrong : ChangeSpec := { name := "fnCheckTamper", fn := fun _ => fun
  | [d] => { results := [.lit (.bool false)], args := [d] }
  | _ => none }
def FnCheckTamperWrongFalsely : Prop := fnCheckTamperRow.holds Tryd.pinned (OpenSpec.ofChange fnCheckTamperWrong)

/-- 'laws.FnCheckLength': WHATEVER THE INPUT: true; the input reads as it did. -/
def fnCheckLengthSpec : ChangeSpec := { name := "fnCheckLength", fn := fun _ => fun
  | [d] => { results := [.lit (.bool true)], args := [d] }
  | _ => none }
def fnCheckLengthRow : OpenClaim := { program := "ytdhdodmpfbgliaadoor", sum := "579b84f52ff61e2656f371a56dbe8639e07b0deb78bb40e0c3ef7c825bbfca40", func := "loop.example/deadlinescheduler/laws.FnCheckLength", spec := "fnCheckLength", inPlace := ["internal/reflectlite.ValueOf", "(internal/reflectlite.Value).Type", "(internal/reflectlite.Value).IsNil", "internal/reflectlite.TypeOf", "(internal/reflectlite.Value).Elem", "(internal/reflectlite.Value).Set"], unfollowed := true, recurses := true, named := ["errors.errorType"], apart := false, laid := [("errors.errorType", laid_errors_errorType)] }
def FnCheckLengthSaid : Prop := fnCheckLengthRow.holds Tryd.pinned (OpenSpec.ofChange fnCheckLengthSpec)

/-- ITS FALSE NEIGHBOUR: 'it returns false'. Refute it at one input. -/
def fnCheckLengthWrong : ChangeSpec := { name := "fnCheckLength", fn := fun _ => fun
  | [d] => { results := [.lit (.bool false)], args := [d] }
  | _ => none }
def FnCheckLengthWrongFalsely : Prop := fnCheckLengthRow.holds Tryd.pinned (OpenSpec.ofChange fnCheckLengthWrong)

/-- 'laws.FnExactCheckSchedule': WHATEVER THE INPUT: true; the input reads as it did. -/
def fnExactCheckScheduleSpec : ChangeSpec := { name := "fnExactCheckSchedule", fn := fun _ => fun
  | [d1, d2, d3] => { results := [.lit (.bool true)], args := [d1, d2, d3] }
  | _ => none }
def fnExactCheckScheduleRow : OpenClaim := { program := "ytdhdodmpfbgliaadoor", sum := "579b84f52ff61e2656f371a56dbe8639e07b0deb78bb40e0c3ef7c825bbfca40", func := "loop.example/deadlinescheduler/laws.FnExactCheckSchedule", spec := "fnExactCheckSchedule", inPlace := ["internal/reflectlite.ValueOf", "(internal/reflectlite.Value).Type", "(internal/reflectlite.Value).IsNil", "internal/reflectlite.TypeOf", "(internal/reflectlite.Value).Elem", "(internal/reflectlite.Value).Set"], unfollowed := true, recurses := true, named := ["errors.errorType"], apart := false, laid := [("errors.errorType", laid_errors_errorType)] }
def FnExactCheckScheduleSaid : Prop := fnExactCheckScheduleRow.holds Tryd.pinned (OpenSpec.ofChange fnExactCheckScheduleSpec)

/-- ITS FALSE NEIGHBOUR: 'it returns false'. Refute it at one input. -/
def fnExactCheckScheduleWrong : ChangeSpec := { name := "fnExactCheckSchedule", fn := fun _ => fun
  | [d1, d2, d3] => { results := [.lit (.bool false)], args := [d1, d2, d3] }
  | _ => none }
def FnExactCheckScheduleWrongFalsely : Prop := fnExactCheckScheduleRow.holds Tryd.pinned (OpenSpec.ofChange fnExactCheckScheduleWrong)

/- THE SECOND FORM. 'bulk': how many values and letters a reading holds, each counted each time it is reached (what is shared counts as often as it is met; a slice's spare places count too). A statement '..UptoSaid' is the law's where the arguments, and the package variables that the reading takes, are together of bulk at most 1048576: NARROWER than '..Said'. Prove '..Said' where nothing that the law and all that it calls make is longer than what came in: it says more and counts as full. Else prove '..UptoSaid'. A law counts once. -/
mutual
def uptoBulk {H : Type} : DataW H → Nat
  | .lit (.string bytes) => bytes.length + 1
  | .lit _ => 1
  | .nil => 1
  | .ptr d => uptoBulk d + 1
  | .slice elems spare => uptoBulkAll elems + uptoBulkAll spare + 1
  | .agg parts => uptoBulkAll parts + 1
  | .iface _ d => uptoBulk d + 1
  | .map entries => uptoBulkEntries entries + 1
  | .held _ => 1
def uptoBulkAll {H : Type} : List (DataW H) → Nat
  | [] => 0
  | d :: r => uptoBulk d + uptoBulkAll r
def uptoBulkEntries {H : Type} : List (Lit × DataW H) → Nat
  | [] => 0
  | x :: r => uptoBulkEntry x + uptoBulkEntries r
def uptoBulkEntry {H : Type} : Lit × DataW H → Nat
  | (.string bytes, d) => bytes.length + uptoBulk d + 1
  | (_, d) => uptoBulk d + 1
 end
def uptoSmall : (H : Type) → List (DataW H) → Bool := fun _ ds => decide (uptoBulkAll ds ≤ 1048576)
def OpenSpec.upto (s : _root_.Go.ChangeSpec) : _root_.Go.OpenSpec := { _root_.Go.OpenSpec.ofChange s with cond := some uptoSmall }

/-- 'laws.FnCheckEdf', WHERE WHAT IT READS IS OF BULK AT MOST 1048576: true; the input reads as it did. -/
def fnCheckEdfUptoRow : OpenClaim := { program := "ytdhdodmpfbgliaadoor", sum := "579b84f52ff61e2656f371a56dbe8639e07b0deb78bb40e0c3ef7c825bbfca40", func := "loop.example/deadlinescheduler/laws.FnCheckEdf", spec := "fnCheckEdf", inPlace := ["internal/reflectlite.ValueOf", "(internal/reflectlite.Value).Type", "(internal/reflectlite.Value).IsNil", "internal/reflectlite.TypeOf", "(internal/reflectlite.Value).Elem", "(internal/reflectlite.Value).Set"], unfollowed := true, recurses := true, named := ["errors.errorType"], apart := false, laid := [("errors.errorType", laid_errors_errorType)], narrowed := true }
def FnCheckEdfUptoSaid : Prop := fnCheckEdfUptoRow.holds Tryd.pinned (OpenSpec.upto fnCheckEdfSpec)

/-- 'laws.FnCheckSound', WHERE WHAT IT READS IS OF BULK AT MOST 1048576: true; the input reads as it did. -/
def fnCheckSoundUptoRow : OpenClaim := { program := "ytdhdodmpfbgliaadoor", sum := "579b84f52ff61e2656f371a56dbe8639e07b0deb78bb40e0c3ef7c825bbfca40", func := "loop.example/deadlinescheduler/laws.FnCheckSound", spec := "fnCheckSound", inPlace := ["internal/reflectlite.ValueOf", "(internal/reflectlite.Value).Type", "(internal/reflectlite.Value).IsNil", "internal/reflectlite.TypeOf", "(internal/reflectlite.Value).Elem", "(internal/reflectlite.Value).Set"], unfollowed := true, recurses := true, named := ["errors.errorType"], apart := false, laid := [("errors.errorType", laid_errors_errorType)], narrowed := true }
def FnCheckSoundUptoSaid : Prop := fnCheckSoundUptoRow.holds Tryd.pinned (OpenSpec.upto fnCheckSoundSpec)

/-- 'laws.FnCheckTamper', WHERE WHAT IT READS IS OF BULK AT MOST 1048576: true; the input reads as it did. -/
def fnCheckTamperUptoRow : OpenClaim := { program := "ytdhdodmpfbgliaadoor", sum := "579b84f52ff61e2656f371a56dbe8639e07b0deb78bb40e0c3ef7c825bbfca40", func := "loop.example/deadlinescheduler/laws.FnCheckTamper", spec := "fnCheckTamper", inPlace := ["internal/reflectlite.ValueOf", "(internal/reflectlite.Value).Type", "(internal/reflectlite.Value).IsNil", "internal/reflectlite.TypeOf", "(internal/reflectlite.Value).Elem", "(internal/reflectlite.Value).Set"], unfollowed := true, recurses := true, named := ["errors.errorType"], apart := false, laid := [("errors.errorType", laid_errors_errorType)], narrowed := true }
def FnCheckTamperUptoSaid : Prop := fnCheckTamperUptoRow.holds Tryd.pinned (OpenSpec.upto fnCheckTamperSpec)

/-- 'laws.FnCheckLength', WHERE WHAT IT READS IS OF BULK AT MOST 1048576: true; the input reads as it did. -/
def fnCheckLengthUptoRow : OpenClaim := { program := "ytdhdodmpfbgliaadoor", sum := "579b84f52ff61e2656f371a56dbe8639e07b0deb78bb40e0c3ef7c825bbfca40", func := "loop.example/deadlinescheduler/laws.FnCheckLength", spec := "fnCheckLength", inPlace := ["internal/reflectlite.ValueOf", "(internal/reflectlite.Value).Type", "(internal/reflectlite.Value).IsNil", "internal/reflectlite.TypeOf", "(internal/reflectlite.Value).Elem", "(internal/reflectlite.Value).Set"], unfollowed := true, recurses := true, named := ["errors.errorType"], apart := false, laid := [("errors.errorType", laid_errors_errorType)], narrowed := true }
def FnCheckLengthUptoSaid : Prop := fnCheckLengthUptoRow.holds Tryd.pinned (OpenSpec.upto fnCheckLengthSpec)

/-- 'laws.FnExactCheckSchedule', WHERE WHAT IT READS IS OF BULK AT MOST 1048576: true; the input reads as it did. -/
def fnExactCheckScheduleUptoRow : OpenClaim := { program := "ytdhdodmpfbgliaadoor", sum := "579b84f52ff61e2656f371a56dbe8639e07b0deb78bb40e0c3ef7c825bbfca40", func := "loop.example/deadlinescheduler/laws.FnExactCheckSchedule", spec := "fnExactCheckSchedule", inPlace := ["internal/reflectlite.ValueOf", "(internal/reflectlite.Value).Type", "(internal/reflectlite.Value).IsNil", "internal/reflectlite.TypeOf", "(internal/reflectlite.Value).Elem", "(internal/reflectlite.Value).Set"], unfollowed := true, recurses := true, named := ["errors.errorType"], apart := false, laid := [("errors.errorType", laid_errors_errorType)], narrowed := true }
def FnExactCheckScheduleUptoSaid : Prop := fnExactCheckScheduleUptoRow.holds Tryd.pinned (OpenSpec.upto fnExactCheckScheduleSpec)

end Rows
end Go.Proofs.YtdhdodmpfbgliaaDoor
