/-
  No cell of these rows narrows 'for every input' (looked for: loops, veiled, ifaces, maps, wideKeys, modest, calm, conditions, laid).
  DERIVED. THE GIVEN ROWS OF THIS SEAT. 9 by the template 'for every input the law returns true; each argument reads behind the call as it read before'; 0 by the template 'total and deterministic' (their statements: YtlagghoohloklaaTotals.lean).
  GIVEN WITH THE SEED: the statements are not yours to turn. If you find one false, say at which input.
  Laid BY PROGRAM, IN A SANDBOX (cutbox-rows.mjs): the forced cells as the released guide's own fill.sh prints them over the translation 94ea89fb9ef925a6… (all of the seat's roots in one cut). By AI agents, Wed Nov 11 2026. No macro, syntax, notation, axiom, sorry.
-/
import Derived.Test.YtlagghoohloklaaChecked
import GoSem.Claim
import GoSem.ClaimJoined
import GoSem.ClaimMapViews
import Derived.JoinedTies
import Derived.KernelRfl
namespace Go.Proofs.Ytlagghoohloklaa
/- THE CELL 'sum', in the pinned program and in every row, IS THE sha256 OF THE DUMP (.gsa) THAT YtlagghoohloklaaProg.lean LOADS. Nothing in Lean hashes anything: it is a label: what it is worth is what the hold of that sum in a sandbox is worth. -/
noncomputable def Try.pinned : Pinned := { name := "ytlagghoohloklaa", sum := "94ea89fb9ef925a6ae7e9d2fee19514626bc6784e5d62d2bfd4cfb424c34b222", checked := Try.checked }
namespace Rows
def none {H : Type} : Left H := { results := [], args := [] }

/-- 'laws.FnResourcesSafe': WHATEVER THE INPUT: true; the input reads as it did. -/
def fnResourcesSafeSpec : ChangeSpec := { name := "fnResourcesSafe", fn := fun _ => fun
  | [d] => { results := [.lit (.bool true)], args := [d] }
  | _ => none }
def fnResourcesSafeRow : OpenClaim := { program := "ytlagghoohloklaa", sum := "94ea89fb9ef925a6ae7e9d2fee19514626bc6784e5d62d2bfd4cfb424c34b222", func := "loop.example/deadlinescheduler/laws.FnResourcesSafe", spec := "fnResourcesSafe", unfollowed := true, recurses := true, apart := false }
def FnResourcesSafeSaid : Prop := fnResourcesSafeRow.holds Try.pinned (OpenSpec.ofChange fnResourcesSafeSpec)

/-- ITS FALSE NEIGHBOUR: 'it returns false'. Refute it at one input. -/
def fnResourcesSafeWrong : ChangeSpec := { name := "fnResourcesSafe", fn := fun _ => fun
  | [d] => { results := [.lit (.bool false)], args := [d] }
  | _ => none }
def FnResourcesSafeWrongFalsely : Prop := fnResourcesSafeRow.holds Try.pinned (OpenSpec.ofChange fnResourcesSafeWrong)

/-- 'laws.FnResourcesMutex': WHATEVER THE INPUT: true; the input reads as it did. -/
def fnResourcesMutexSpec : ChangeSpec := { name := "fnResourcesMutex", fn := fun _ => fun
  | [d] => { results := [.lit (.bool true)], args := [d] }
  | _ => none }
def fnResourcesMutexRow : OpenClaim := { program := "ytlagghoohloklaa", sum := "94ea89fb9ef925a6ae7e9d2fee19514626bc6784e5d62d2bfd4cfb424c34b222", func := "loop.example/deadlinescheduler/laws.FnResourcesMutex", spec := "fnResourcesMutex", unfollowed := true, recurses := true, apart := false }
def FnResourcesMutexSaid : Prop := fnResourcesMutexRow.holds Try.pinned (OpenSpec.ofChange fnResourcesMutexSpec)

/-- ITS FALSE NEIGHBOUR: 'it returns false'. Refute it at one input. -/
def fnResourcesMutexWrong : ChangeSpec := { name := "fnResourcesMutex", fn := fun _ => fun
  | [d] => { results := [.lit (.bool false)], args := [d] }
  | _ => none }
def FnResourcesMutexWrongFalsely : Prop := fnResourcesMutexRow.holds Try.pinned (OpenSpec.ofChange fnResourcesMutexWrong)

/-- 'laws.FnResourcesStarted': WHATEVER THE INPUT: true; the input reads as it did. -/
def fnResourcesStartedSpec : ChangeSpec := { name := "fnResourcesStarted", fn := fun _ => fun
  | [d] => { results := [.lit (.bool true)], args := [d] }
  | _ => none }
def fnResourcesStartedRow : OpenClaim := { program := "ytlagghoohloklaa", sum := "94ea89fb9ef925a6ae7e9d2fee19514626bc6784e5d62d2bfd4cfb424c34b222", func := "loop.example/deadlinescheduler/laws.FnResourcesStarted", spec := "fnResourcesStarted", unfollowed := true, recurses := true, apart := false }
def FnResourcesStartedSaid : Prop := fnResourcesStartedRow.holds Try.pinned (OpenSpec.ofChange fnResourcesStartedSpec)

/-- ITS FALSE NEIGHBOUR: 'it returns false'. Refute it at one input. -/
def fnResourcesStartedWrong : ChangeSpec := { name := "fnResourcesStarted", fn := fun _ => fun
  | [d] => { results := [.lit (.bool false)], args := [d] }
  | _ => none }
def FnResourcesStartedWrongFalsely : Prop := fnResourcesStartedRow.holds Try.pinned (OpenSpec.ofChange fnResourcesStartedWrong)

/-- 'laws.FnResourcesNone': WHATEVER THE INPUT: true; the input reads as it did. -/
def fnResourcesNoneSpec : ChangeSpec := { name := "fnResourcesNone", fn := fun _ => fun
  | [d] => { results := [.lit (.bool true)], args := [d] }
  | _ => none }
def fnResourcesNoneRow : OpenClaim := { program := "ytlagghoohloklaa", sum := "94ea89fb9ef925a6ae7e9d2fee19514626bc6784e5d62d2bfd4cfb424c34b222", func := "loop.example/deadlinescheduler/laws.FnResourcesNone", spec := "fnResourcesNone", unfollowed := true, recurses := true, apart := false }
def FnResourcesNoneSaid : Prop := fnResourcesNoneRow.holds Try.pinned (OpenSpec.ofChange fnResourcesNoneSpec)

/-- ITS FALSE NEIGHBOUR: 'it returns false'. Refute it at one input. -/
def fnResourcesNoneWrong : ChangeSpec := { name := "fnResourcesNone", fn := fun _ => fun
  | [d] => { results := [.lit (.bool false)], args := [d] }
  | _ => none }
def FnResourcesNoneWrongFalsely : Prop := fnResourcesNoneRow.holds Try.pinned (OpenSpec.ofChange fnResourcesNoneWrong)

/-- 'laws.FnBusySame': WHATEVER THE INPUT: true; the input reads as it did. -/
def fnBusySameSpec : ChangeSpec := { name := "fnBusySame", fn := fun _ => fun
  | [d] => { results := [.lit (.bool true)], args := [d] }
  | _ => none }
def fnBusySameRow : OpenClaim := { program := "ytlagghoohloklaa", sum := "94ea89fb9ef925a6ae7e9d2fee19514626bc6784e5d62d2bfd4cfb424c34b222", func := "loop.example/deadlinescheduler/laws.FnBusySame", spec := "fnBusySame", unfollowed := true, recurses := true, apart := false }
def FnBusySameSaid : Prop := fnBusySameRow.holds Try.pinned (OpenSpec.ofChange fnBusySameSpec)

/-- ITS FALSE NEIGHBOUR: 'it returns false'. Refute it at one input. -/
def fnBusySameWrong : ChangeSpec := { name := "fnBusySame", fn := fun _ => fun
  | [d] => { results := [.lit (.bool false)], args := [d] }
  | _ => none }
def FnBusySameWrongFalsely : Prop := fnBusySameRow.holds Try.pinned (OpenSpec.ofChange fnBusySameWrong)

/-- 'laws.FnResourcesDone': WHATEVER THE INPUT: true; the input reads as it did. -/
def fnResourcesDoneSpec : ChangeSpec := { name := "fnResourcesDone", fn := fun _ => fun
  | [d] => { results := [.lit (.bool true)], args := [d] }
  | _ => none }
def fnResourcesDoneRow : OpenClaim := { program := "ytlagghoohloklaa", sum := "94ea89fb9ef925a6ae7e9d2fee19514626bc6784e5d62d2bfd4cfb424c34b222", func := "loop.example/deadlinescheduler/laws.FnResourcesDone", spec := "fnResourcesDone", unfollowed := true, recurses := true, apart := false }
def FnResourcesDoneSaid : Prop := fnResourcesDoneRow.holds Try.pinned (OpenSpec.ofChange fnResourcesDoneSpec)

/-- ITS FALSE NEIGHBOUR: 'it returns false'. Refute it at one input. -/
def fnResourcesDoneWrong : ChangeSpec := { name := "fnResourcesDone", fn := fun _ => fun
  | [d] => { results := [.lit (.bool false)], args := [d] }
  | _ => none }
def FnResourcesDoneWrongFalsely : Prop := fnResourcesDoneRow.holds Try.pinned (OpenSpec.ofChange fnResourcesDoneWrong)

/-- 'laws.FnResourcesBlocked': WHATEVER THE INPUT: true; the input reads as it did. -/
def fnResourcesBlockedSpec : ChangeSpec := { name := "fnResourcesBlocked", fn := fun _ => fun
  | [d] => { results := [.lit (.bool true)], args := [d] }
  | _ => none }
def fnResourcesBlockedRow : OpenClaim := { program := "ytlagghoohloklaa", sum := "94ea89fb9ef925a6ae7e9d2fee19514626bc6784e5d62d2bfd4cfb424c34b222", func := "loop.example/deadlinescheduler/laws.FnResourcesBlocked", spec := "fnResourcesBlocked", unfollowed := true, recurses := true, apart := false }
def FnResourcesBlockedSaid : Prop := fnResourcesBlockedRow.holds Try.pinned (OpenSpec.ofChange fnResourcesBlockedSpec)

/-- ITS FALSE NEIGHBOUR: 'it returns false'. Refute it at one input. -/
def fnResourcesBlockedWrong : ChangeSpec := { name := "fnResourcesBlocked", fn := fun _ => fun
  | [d] => { results := [.lit (.bool false)], args := [d] }
  | _ => none }
def FnResourcesBlockedWrongFalsely : Prop := fnResourcesBlockedRow.holds Try.pinned (OpenSpec.ofChange fnResourcesBlockedWrong)

/-- 'laws.FnInversion': WHATEVER THE INPUT: true; the input reads as it did. -/
def fnInversionSpec : ChangeSpec := { name := "fnInversion", fn := fun _ => fun
  | [d] => { results := [.lit (.bool true)], args := [d] }
  | _ => none }
def fnInversionRow : OpenClaim := { program := "ytlagghoohloklaa", sum := "94ea89fb9ef925a6ae7e9d2fee19514626bc6784e5d62d2bfd4cfb424c34b222", func := "loop.example/deadlinescheduler/laws.FnInversion", spec := "fnInversion", unfollowed := true, recurses := true, apart := false }
def FnInversionSaid : Prop := fnInversionRow.holds Try.pinned (OpenSpec.ofChange fnInversionSpec)

/-- ITS FALSE NEIGHBOUR: 'it returns false'. Refute it at one input. -/
def fnInversionWrong : ChangeSpec := { name := "fnInversion", fn := fun _ => fun
  | [d] => { results := [.lit (.bool false)], args := [d] }
  | _ => none }
def FnInversionWrongFalsely : Prop := fnInversionRow.holds Try.pinned (OpenSpec.ofChange fnInversionWrong)

/-- 'laws.FnExactRunResources': WHATEVER THE INPUT: true; the input reads as it did. -/
def fnExactRunResourcesSpec : ChangeSpec := { name := "fnExactRunResources", fn := fun _ => fun
  | [d1, d2, d3] => { results := [.lit (.bool true)], args := [d1, d2, d3] }
  | _ => none }
def fnExactRunResourcesRow : OpenClaim := { program := "ytlagghoohloklaa", sum := "94ea89fb9ef925a6ae7e9d2fee19514626bc6784e5d62d2bfd4cfb424c34b222", func := "loop.example/deadlinescheduler/laws.FnExactRunResources", spec := "fnExactRunResources", unfollowed := true, recurses := true, apart := false }
def FnExactRunResourcesSaid : Prop := fnExactRunResourcesRow.holds Try.pinned (OpenSpec.ofChange fnExactRunResourcesSpec)

/-- ITS FALSE NEIGHBOUR: 'it returns false'. Refute it at one input. -/
def fnExactRunResourcesWrong : ChangeSpec := { name := "fnExactRunResources", fn := fun _ => fun
  | [d1, d2, d3] => { results := [.lit (.bool false)], args := [d1, d2, d3] }
  | _ => none }
def FnExactRunResourcesWrongFalsely : Prop := fnExactRunResourcesRow.holds Try.pinned (OpenSpec.ofChange fnExactRunResourcesWrong)

/- THE SECOND FORM. 'bulk': how many values and letters a reading holds, each counted each time it is reached (what is shared counts as often as it is met; a slice's spare places count too). A statement '..UptoSaid' is the law's where the arguments, and the package variables that the reading takes, are together of bulk at most 1048576: NARROWER than '..Said'. Prove '..Said' where nothing that the law and all that it calls make is longer than what came in: it says more and counts as full. Else prove '..UptoSaid'. A law counts once. -/
mutual
def uptoBulk {H : Type} : DataW H → Nat
  | .lit (.string bytes) => bytes.length + 1
  | .lit _ => 1
  | .nil => 1
  | .ptr d => uptoBulk d + 1
  | .slice elems spare => uptoBulkAll elems + uptoBulkAll spare + 1
  | .agg parts => uptoBulkAll parts + 1
  | .iface _ d => uptoBulk d + 1
  | .map entries => uptoBulkEntries entries + 1
  | .held _ => 1
def uptoBulkAll {H : Type} : List (DataW H) → Nat
  | [] => 0
  | d :: r => uptoBulk d + uptoBulkAll r
def uptoBulkEntries {H : Type} : List (Lit × DataW H) → Nat
  | [] => 0
  | x :: r => uptoBulkEntry x + uptoBulkEntries r
def uptoBulkEntry {H : Type} : Lit × DataW H → Nat
  | (.string bytes, d) => bytes.length + uptoBulk d + 1
  | (_, d) => uptoBulk d + 1
 end
def uptoSmall : (H : Type) → List (DataW H) → Bool := fun _ ds => decide (uptoBulkAll ds ≤ 1048576)
def OpenSpec.upto (s : _root_.Go.ChangeSpec) : _root_.Go.OpenSpec := { _root_.Go.OpenSpec.ofChange s with cond := some uptoSmall }

/-- 'laws.FnResourcesSafe', WHERE WHAT IT READS IS OF BULK AT MOST 1048576: true; the input reads as it did. -/
def fnResourcesSafeUptoRow : OpenClaim := { program := "ytlagghoohloklaa", sum := "94ea89fb9ef925a6ae7e9d2fee19514626bc6784e5d62d2bfd4cfb424c34b222", func := "loop.example/deadlinescheduler/laws.FnResourcesSafe", spec := "fnResourcesSafe", unfollowed := true, recurses := true, apart := false, narrowed := true }
def FnResourcesSafeUptoSaid : Prop := fnResourcesSafeUptoRow.holds Try.pinned (OpenSpec.upto fnResourcesSafeSpec)

/-- 'laws.FnResourcesMutex', WHERE WHAT IT READS IS OF BULK AT MOST 1048576: true; the input reads as it did. -/
def fnResourcesMutexUptoRow : OpenClaim := { program := "ytlagghoohloklaa", sum := "94ea89fb9ef925a6ae7e9d2fee19514626bc6784e5d62d2bfd4cfb424c34b222", func := "loop.example/deadlinescheduler/laws.FnResourcesMutex", spec := "fnResourcesMutex", unfollowed := true, recurses := true, apart := false, narrowed := true }
def FnResourcesMutexUptoSaid : Prop := fnResourcesMutexUptoRow.holds Try.pinned (OpenSpec.upto fnResourcesMutexSpec)

/-- 'laws.FnResourcesStarted', WHERE WHAT IT READS IS OF BULK AT MOST 1048576: true; the input reads as it did. -/
def fnResourcesStartedUptoRow : OpenClaim := { program := "ytlagghoohloklaa", sum := "94ea89fb9ef925a6ae7e9d2fee19514626bc6784e5d62d2bfd4cfb424c34b222", func := "loop.example/deadlinescheduler/laws.FnResourcesStarted", spec := "fnResourcesStarted", unfollowed := true, recurses := true, apart := false, narrowed := true }
def FnResourcesStartedUptoSaid : Prop := fnResourcesStartedUptoRow.holds Try.pinned (OpenSpec.upto fnResourcesStartedSpec)

/-- 'laws.FnResourcesNone', WHERE WHAT IT READS IS OF BULK AT MOST 1048576: true; the input reads as it did. -/
def fnResourcesNoneUptoRow : OpenClaim := { program := "ytlagghoohloklaa", sum := "94ea89fb9ef925a6ae7e9d2fee19514626bc6784e5d62d2bfd4cfb424c34b222", func := "loop.example/deadlinescheduler/laws.FnResourcesNone", spec := "fnResourcesNone", unfollowed := true, recurses := true, apart := false, narrowed := true }
def FnResourcesNoneUptoSaid : Prop := fnResourcesNoneUptoRow.holds Try.pinned (OpenSpec.upto fnResourcesNoneSpec)

/-- 'laws.FnBusySame', WHERE WHAT IT READS IS OF BULK AT MOST 1048576: true; the input reads as it did. -/
def fnBusySameUptoRow : OpenClaim := { program := "ytlagghoohloklaa", sum := "94ea89fb9ef925a6ae7e9d2fee19514626bc6784e5d62d2bfd4cfb424c34b222", func := "loop.example/deadlinescheduler/laws.FnBusySame", spec := "fnBusySame", unfollowed := true, recurses := true, apart := false, narrowed := true }
def FnBusySameUptoSaid : Prop := fnBusySameUptoRow.holds Try.pinned (OpenSpec.upto fnBusySameSpec)

/-- 'laws.FnResourcesDone', WHERE WHAT IT READS IS OF BULK AT MOST 1048576: true; the input reads as it did. -/
def fnResourcesDoneUptoRow : OpenClaim := { program := "ytlagghoohloklaa", sum := "94ea89fb9ef925a6ae7e9d2fee19514626bc6784e5d62d2bfd4cfb424c34b222", func := "loop.example/deadlinescheduler/laws.FnResourcesDone", spec := "fnResourcesDone", unfollowed := true, recurses := true, apart := false, narrowed := true }
def FnResourcesDoneUptoSaid : Prop := fnResourcesDoneUptoRow.holds Try.pinned (OpenSpec.upto fnResourcesDoneSpec)

/-- 'laws.FnResourcesBlocked', WHERE WHAT IT READS IS OF BULK AT MOST 1048576: true; the input reads as it did. -/
def fnResourcesBlockedUptoRow : OpenClaim := { program := "ytlagghoohloklaa", sum := "94ea89fb9ef925a6ae7e9d2fee19514626bc6784e5d62d2bfd4cfb424c34b222", func := "loop.example/deadlinescheduler/laws.FnResourcesBlocked", spec := "fnResourcesBlocked", unfollowed := true, recurses := true, apart := false, narrowed := true }
def FnResourcesBlockedUptoSaid : Prop := fnResourcesBlockedUptoRow.holds Try.pinned (OpenSpec.upto fnResourcesBlockedSpec)

/-- 'laws.FnInversion', WHERE WHAT IT READS IS OF BULK AT MOST 1048576: true; the input reads as it did. -/
def fnInversionUptoRow : OpenClaim := { program := "ytlagghoohloklaa", sum := "94ea89fb9ef925a6ae7e9d2fee19514626bc6784e5d62d2bfd4cfb424c34b222", func := "loop.example/deadlinescheduler/laws.FnInversion", spec := "fnInversion", unfollowed := true, recurses := true, apart := false, narrowed := true }
def FnInversionUptoSaid : Prop := fnInversionUptoRow.holds Try.pinned (OpenSpec.upto fnInversionSpec)

/-- 'laws.FnExactRunResources', WHERE WHAT IT READS IS OF BULK AT MOST 1048576: true; the input reads as it did. -/
def fnExactRunResourcesUptoRow : OpenClaim := { program := "ytlagghoohloklaa", sum := "94ea89fb9ef925a6ae7e9d2fee19514626bc6784e5d62d2bfd4cfb424c34b222", func := "loop.example/deadlinescheduler/laws.FnExactRunResources", spec := "fnExactRunResources", unfollowed := true, recurses := true, apart := false, narrowed := true }
def FnExactRunResourcesUptoSaid : Prop := fnExactRunResourcesUptoRow.holds Try.pinned (OpenSpec.upto fnExactRunResourcesSpec)

end Rows
end Go.Proofs.Ytlagghoohloklaa
