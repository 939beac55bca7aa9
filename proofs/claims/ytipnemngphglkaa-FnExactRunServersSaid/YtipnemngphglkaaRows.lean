/-
  No cell of these rows narrows 'for every input' (looked for: loops, veiled, ifaces, maps, wideKeys, modest, calm, conditions, laid).
  DERIVED. THE GIVEN ROWS OF THIS SEAT. 11 by the template 'for every input the law returns true; each argument reads behind the call as it read before'; 0 by the template 'total and deterministic' (their statements: YtipnemngphglkaaTotals.lean).
  GIVEN WITH THE SEED: the statements are not yours to turn. If you find one false, say at which input.
  Laid BY PROGRAM, IN A SANDBOX (cutbox-rows.mjs): the forced cells as the released guide's own fill.sh prints them over the translation 54da47718d117d64… (all of the seat's roots in one cut). By AI agents, Wed Nov 11 2026. No macro, syntax, notation, axiom, sorry.
-/
import Derived.Test.YtipnemngphglkaaChecked
import GoSem.Claim
import GoSem.ClaimJoined
import GoSem.ClaimMapViews
import Derived.JoinedTies
import Derived.KernelRfl
namespace Go.Proofs.Ytipnemngphglkaa
/- THE CELL 'sum', in the pinned program and in every row, IS THE sha256 OF THE DUMP (.gsa) THAT YtipnemngphglkaaProg.lean LOADS. Nothing in Lean hashes anything: it is a label: what it is worth is what the hold of that sum in a sandbox is worth. -/
noncomputable def Try.pinned : Pinned := { name := "ytipnemngphglkaa", sum := "54da47718d117d6412c40c87526e935e4891fb33dd2f6b198cd747f078b1c17f", checked := Try.checked }
namespace Rows
def none {H : Type} : Left H := { results := [], args := [] }

/-- 'laws.FnServersValid': WHATEVER THE INPUT: true; the input reads as it did. -/
def fnServersValidSpec : ChangeSpec := { name := "fnServersValid", fn := fun _ => fun
  | [d] => { results := [.lit (.bool true)], args := [d] }
  | _ => none }
def fnServersValidRow : OpenClaim := { program := "ytipnemngphglkaa", sum := "54da47718d117d6412c40c87526e935e4891fb33dd2f6b198cd747f078b1c17f", func := "loop.example/deadlinescheduler/laws.FnServersValid", spec := "fnServersValid", unfollowed := true, recurses := true, apart := false }
def FnServersValidSaid : Prop := fnServersValidRow.holds Try.pinned (OpenSpec.ofChange fnServersValidSpec)

/-- ITS FALSE NEIGHBOUR: 'it returns false'. Refute it at one input. -/
def fnServersValidWrong : ChangeSpec := { name := "fnServersValid", fn := fun _ => fun
  | [d] => { results := [.lit (.bool false)], args := [d] }
  | _ => none }
def FnServersValidWrongFalsely : Prop := fnServersValidRow.holds Try.pinned (OpenSpec.ofChange fnServersValidWrong)

/-- 'laws.FnArrivalsLegal': WHATEVER THE INPUT: true; the input reads as it did. -/
def fnArrivalsLegalSpec : ChangeSpec := { name := "fnArrivalsLegal", fn := fun _ => fun
  | [d] => { results := [.lit (.bool true)], args := [d] }
  | _ => none }
def fnArrivalsLegalRow : OpenClaim := { program := "ytipnemngphglkaa", sum := "54da47718d117d6412c40c87526e935e4891fb33dd2f6b198cd747f078b1c17f", func := "loop.example/deadlinescheduler/laws.FnArrivalsLegal", spec := "fnArrivalsLegal", unfollowed := true, recurses := true, apart := false }
def FnArrivalsLegalSaid : Prop := fnArrivalsLegalRow.holds Try.pinned (OpenSpec.ofChange fnArrivalsLegalSpec)

/-- ITS FALSE NEIGHBOUR: 'it returns false'. Refute it at one input. -/
def fnArrivalsLegalWrong : ChangeSpec := { name := "fnArrivalsLegal", fn := fun _ => fun
  | [d] => { results := [.lit (.bool false)], args := [d] }
  | _ => none }
def FnArrivalsLegalWrongFalsely : Prop := fnArrivalsLegalRow.holds Try.pinned (OpenSpec.ofChange fnArrivalsLegalWrong)

/-- 'laws.FnServersFeasible': WHATEVER THE INPUT: true; the input reads as it did. -/
def fnServersFeasibleSpec : ChangeSpec := { name := "fnServersFeasible", fn := fun _ => fun
  | [d] => { results := [.lit (.bool true)], args := [d] }
  | _ => none }
def fnServersFeasibleRow : OpenClaim := { program := "ytipnemngphglkaa", sum := "54da47718d117d6412c40c87526e935e4891fb33dd2f6b198cd747f078b1c17f", func := "loop.example/deadlinescheduler/laws.FnServersFeasible", spec := "fnServersFeasible", unfollowed := true, recurses := true, apart := false }
def FnServersFeasibleSaid : Prop := fnServersFeasibleRow.holds Try.pinned (OpenSpec.ofChange fnServersFeasibleSpec)

/-- ITS FALSE NEIGHBOUR: 'it returns false'. Refute it at one input. -/
def fnServersFeasibleWrong : ChangeSpec := { name := "fnServersFeasible", fn := fun _ => fun
  | [d] => { results := [.lit (.bool false)], args := [d] }
  | _ => none }
def FnServersFeasibleWrongFalsely : Prop := fnServersFeasibleRow.holds Try.pinned (OpenSpec.ofChange fnServersFeasibleWrong)

/-- 'laws.FnServerIsolation': WHATEVER THE INPUT: true; the input reads as it did. -/
def fnServerIsolationSpec : ChangeSpec := { name := "fnServerIsolation", fn := fun _ => fun
  | [d] => { results := [.lit (.bool true)], args := [d] }
  | _ => none }
def fnServerIsolationRow : OpenClaim := { program := "ytipnemngphglkaa", sum := "54da47718d117d6412c40c87526e935e4891fb33dd2f6b198cd747f078b1c17f", func := "loop.example/deadlinescheduler/laws.FnServerIsolation", spec := "fnServerIsolation", unfollowed := true, recurses := true, apart := false }
def FnServerIsolationSaid : Prop := fnServerIsolationRow.holds Try.pinned (OpenSpec.ofChange fnServerIsolationSpec)

/-- ITS FALSE NEIGHBOUR: 'it returns false'. Refute it at one input. -/
def fnServerIsolationWrong : ChangeSpec := { name := "fnServerIsolation", fn := fun _ => fun
  | [d] => { results := [.lit (.bool false)], args := [d] }
  | _ => none }
def FnServerIsolationWrongFalsely : Prop := fnServerIsolationRow.holds Try.pinned (OpenSpec.ofChange fnServerIsolationWrong)

/-- 'laws.FnServerOrder': WHATEVER THE INPUT: true; the input reads as it did. -/
def fnServerOrderSpec : ChangeSpec := { name := "fnServerOrder", fn := fun _ => fun
  | [d] => { results := [.lit (.bool true)], args := [d] }
  | _ => none }
def fnServerOrderRow : OpenClaim := { program := "ytipnemngphglkaa", sum := "54da47718d117d6412c40c87526e935e4891fb33dd2f6b198cd747f078b1c17f", func := "loop.example/deadlinescheduler/laws.FnServerOrder", spec := "fnServerOrder", unfollowed := true, recurses := true, apart := false }
def FnServerOrderSaid : Prop := fnServerOrderRow.holds Try.pinned (OpenSpec.ofChange fnServerOrderSpec)

/-- ITS FALSE NEIGHBOUR: 'it returns false'. Refute it at one input. -/
def fnServerOrderWrong : ChangeSpec := { name := "fnServerOrder", fn := fun _ => fun
  | [d] => { results := [.lit (.bool false)], args := [d] }
  | _ => none }
def FnServerOrderWrongFalsely : Prop := fnServerOrderRow.holds Try.pinned (OpenSpec.ofChange fnServerOrderWrong)

/-- 'laws.FnServerIdle': WHATEVER THE INPUT: true; the input reads as it did. -/
def fnServerIdleSpec : ChangeSpec := { name := "fnServerIdle", fn := fun _ => fun
  | [d] => { results := [.lit (.bool true)], args := [d] }
  | _ => none }
def fnServerIdleRow : OpenClaim := { program := "ytipnemngphglkaa", sum := "54da47718d117d6412c40c87526e935e4891fb33dd2f6b198cd747f078b1c17f", func := "loop.example/deadlinescheduler/laws.FnServerIdle", spec := "fnServerIdle", unfollowed := true, recurses := true, apart := false }
def FnServerIdleSaid : Prop := fnServerIdleRow.holds Try.pinned (OpenSpec.ofChange fnServerIdleSpec)

/-- ITS FALSE NEIGHBOUR: 'it returns false'. Refute it at one input. -/
def fnServerIdleWrong : ChangeSpec := { name := "fnServerIdle", fn := fun _ => fun
  | [d] => { results := [.lit (.bool false)], args := [d] }
  | _ => none }
def FnServerIdleWrongFalsely : Prop := fnServerIdleRow.holds Try.pinned (OpenSpec.ofChange fnServerIdleWrong)

/-- 'laws.FnServerShare': WHATEVER THE INPUT: true; the input reads as it did. -/
def fnServerShareSpec : ChangeSpec := { name := "fnServerShare", fn := fun _ => fun
  | [d] => { results := [.lit (.bool true)], args := [d] }
  | _ => none }
def fnServerShareRow : OpenClaim := { program := "ytipnemngphglkaa", sum := "54da47718d117d6412c40c87526e935e4891fb33dd2f6b198cd747f078b1c17f", func := "loop.example/deadlinescheduler/laws.FnServerShare", spec := "fnServerShare", unfollowed := true, recurses := true, apart := false }
def FnServerShareSaid : Prop := fnServerShareRow.holds Try.pinned (OpenSpec.ofChange fnServerShareSpec)

/-- ITS FALSE NEIGHBOUR: 'it returns false'. Refute it at one input. -/
def fnServerShareWrong : ChangeSpec := { name := "fnServerShare", fn := fun _ => fun
  | [d] => { results := [.lit (.bool false)], args := [d] }
  | _ => none }
def FnServerShareWrongFalsely : Prop := fnServerShareRow.holds Try.pinned (OpenSpec.ofChange fnServerShareWrong)

/-- 'laws.FnExactServersValid': WHATEVER THE INPUT: true; the input reads as it did. -/
def fnExactServersValidSpec : ChangeSpec := { name := "fnExactServersValid", fn := fun _ => fun
  | [d] => { results := [.lit (.bool true)], args := [d] }
  | _ => none }
def fnExactServersValidRow : OpenClaim := { program := "ytipnemngphglkaa", sum := "54da47718d117d6412c40c87526e935e4891fb33dd2f6b198cd747f078b1c17f", func := "loop.example/deadlinescheduler/laws.FnExactServersValid", spec := "fnExactServersValid", unfollowed := true, recurses := true, apart := false }
def FnExactServersValidSaid : Prop := fnExactServersValidRow.holds Try.pinned (OpenSpec.ofChange fnExactServersValidSpec)

/-- ITS FALSE NEIGHBOUR: 'it returns false'. Refute it at one input. -/
def fnExactServersValidWrong : ChangeSpec := { name := "fnExactServersValid", fn := fun _ => fun
  | [d] => { results := [.lit (.bool false)], args := [d] }
  | _ => none }
def FnExactServersValidWrongFalsely : Prop := fnExactServersValidRow.holds Try.pinned (OpenSpec.ofChange fnExactServersValidWrong)

/-- 'laws.FnExactArrivalsLegal': WHATEVER THE INPUT: true; the input reads as it did. -/
def fnExactArrivalsLegalSpec : ChangeSpec := { name := "fnExactArrivalsLegal", fn := fun _ => fun
  | [d] => { results := [.lit (.bool true)], args := [d] }
  | _ => none }
def fnExactArrivalsLegalRow : OpenClaim := { program := "ytipnemngphglkaa", sum := "54da47718d117d6412c40c87526e935e4891fb33dd2f6b198cd747f078b1c17f", func := "loop.example/deadlinescheduler/laws.FnExactArrivalsLegal", spec := "fnExactArrivalsLegal", unfollowed := true, recurses := true, apart := false }
def FnExactArrivalsLegalSaid : Prop := fnExactArrivalsLegalRow.holds Try.pinned (OpenSpec.ofChange fnExactArrivalsLegalSpec)

/-- ITS FALSE NEIGHBOUR: 'it returns false'. Refute it at one input. -/
def fnExactArrivalsLegalWrong : ChangeSpec := { name := "fnExactArrivalsLegal", fn := fun _ => fun
  | [d] => { results := [.lit (.bool false)], args := [d] }
  | _ => none }
def FnExactArrivalsLegalWrongFalsely : Prop := fnExactArrivalsLegalRow.holds Try.pinned (OpenSpec.ofChange fnExactArrivalsLegalWrong)

/-- 'laws.FnExactServersFeasible': WHATEVER THE INPUT: true; the input reads as it did. -/
def fnExactServersFeasibleSpec : ChangeSpec := { name := "fnExactServersFeasible", fn := fun _ => fun
  | [d1, d2] => { results := [.lit (.bool true)], args := [d1, d2] }
  | _ => none }
def fnExactServersFeasibleRow : OpenClaim := { program := "ytipnemngphglkaa", sum := "54da47718d117d6412c40c87526e935e4891fb33dd2f6b198cd747f078b1c17f", func := "loop.example/deadlinescheduler/laws.FnExactServersFeasible", spec := "fnExactServersFeasible", unfollowed := true, recurses := true, apart := false }
def FnExactServersFeasibleSaid : Prop := fnExactServersFeasibleRow.holds Try.pinned (OpenSpec.ofChange fnExactServersFeasibleSpec)

/-- ITS FALSE NEIGHBOUR: 'it returns false'. Refute it at one input. -/
def fnExactServersFeasibleWrong : ChangeSpec := { name := "fnExactServersFeasible", fn := fun _ => fun
  | [d1, d2] => { results := [.lit (.bool false)], args := [d1, d2] }
  | _ => none }
def FnExactServersFeasibleWrongFalsely : Prop := fnExactServersFeasibleRow.holds Try.pinned (OpenSpec.ofChange fnExactServersFeasibleWrong)

/-- 'laws.FnExactRunServers': WHATEVER THE INPUT: true; the input reads as it did. -/
def fnExactRunServersSpec : ChangeSpec := { name := "fnExactRunServers", fn := fun _ => fun
  | [d1, d2, d3, d4] => { results := [.lit (.bool true)], args := [d1, d2, d3, d4] }
  | _ => none }
def fnExactRunServersRow : OpenClaim := { program := "ytipnemngphglkaa", sum := "54da47718d117d6412c40c87526e935e4891fb33dd2f6b198cd747f078b1c17f", func := "loop.example/deadlinescheduler/laws.FnExactRunServers", spec := "fnExactRunServers", unfollowed := true, recurses := true, apart := false }
def FnExactRunServersSaid : Prop := fnExactRunServersRow.holds Try.pinned (OpenSpec.ofChange fnExactRunServersSpec)

/-- ITS FALSE NEIGHBOUR: 'it returns false'. Refute it at one input. -/
def fnExactRunServersWrong : ChangeSpec := { name := "fnExactRunServers", fn := fun _ => fun
  | [d1, d2, d3, d4] => { results := [.lit (.bool false)], args := [d1, d2, d3, d4] }
  | _ => none }
def FnExactRunServersWrongFalsely : Prop := fnExactRunServersRow.holds Try.pinned (OpenSpec.ofChange fnExactRunServersWrong)

/- THE SECOND FORM. 'bulk': how many values and letters a reading holds, each counted each time it is reached (what is shared counts as often as it is met; a slice's spare places count too). A statement '..UptoSaid' is the law's where the arguments, and the package variables that the reading takes, are together of bulk at most 1048576: NARROWER than '..Said'. Prove '..Said' where nothing that the law and all that it calls make is longer than what came in: it says more and counts as full. Else prove '..UptoSaid'. A law counts once. -/
mutual
def uptoBulk {H : Type} : DataW H → Nat
  | .lit (.string bytes) => bytes.length + 1
  | .lit _ => 1
  | .nil => 1
  | .ptr d => uptoBulk d + 1
  | .slice elems spare => uptoBulkAll elems + uptoBulkAll spare + 1
  | .agg parts => uptoBulkAll parts + 1
  | .iface _ d => uptoBulk d + 1
  | .map entries => uptoBulkEntries entries + 1
  | .held _ => 1
def uptoBulkAll {H : Type} : List (DataW H) → Nat
  | [] => 0
  | d :: r => uptoBulk d + uptoBulkAll r
def uptoBulkEntries {H : Type} : List (Lit × DataW H) → Nat
  | [] => 0
  | x :: r => uptoBulkEntry x + uptoBulkEntries r
def uptoBulkEntry {H : Type} : Lit × DataW H → Nat
  | (.string bytes, d) => bytes.length + uptoBulk d + 1
  | (_, d) => uptoBulk d + 1
 end
def uptoSmall : (H : Type) → List (DataW H) → Bool := fun _ ds => decide (uptoBulkAll ds ≤ 1048576)
def OpenSpec.upto (s : _root_.Go.ChangeSpec) : _root_.Go.OpenSpec := { _root_.Go.OpenSpec.ofChange s with cond := some uptoSmall }

/-- 'laws.FnServersValid', WHERE WHAT IT READS IS OF BULK AT MOST 1048576: true; the input reads as it did. -/
def fnServersValidUptoRow : OpenClaim := { program := "ytipnemngphglkaa", sum := "54da47718d117d6412c40c87526e935e4891fb33dd2f6b198cd747f078b1c17f", func := "loop.example/deadlinescheduler/laws.FnServersValid", spec := "fnServersValid", unfollowed := true, recurses := true, apart := false, narrowed := true }
def FnServersValidUptoSaid : Prop := fnServersValidUptoRow.holds Try.pinned (OpenSpec.upto fnServersValidSpec)

/-- 'laws.FnArrivalsLegal', WHERE WHAT IT READS IS OF BULK AT MOST 1048576: true; the input reads as it did. -/
def fnArrivalsLegalUptoRow : OpenClaim := { program := "ytipnemngphglkaa", sum := "54da47718d117d6412c40c87526e935e4891fb33dd2f6b198cd747f078b1c17f", func := "loop.example/deadlinescheduler/laws.FnArrivalsLegal", spec := "fnArrivalsLegal", unfollowed := true, recurses := true, apart := false, narrowed := true }
def FnArrivalsLegalUptoSaid : Prop := fnArrivalsLegalUptoRow.holds Try.pinned (OpenSpec.upto fnArrivalsLegalSpec)

/-- 'laws.FnServersFeasible', WHERE WHAT IT READS IS OF BULK AT MOST 1048576: true; the input reads as it did. -/
def fnServersFeasibleUptoRow : OpenClaim := { program := "ytipnemngphglkaa", sum := "54da47718d117d6412c40c87526e935e4891fb33dd2f6b198cd747f078b1c17f", func := "loop.example/deadlinescheduler/laws.FnServersFeasible", spec := "fnServersFeasible", unfollowed := true, recurses := true, apart := false, narrowed := true }
def FnServersFeasibleUptoSaid : Prop := fnServersFeasibleUptoRow.holds Try.pinned (OpenSpec.upto fnServersFeasibleSpec)

/-- 'laws.FnServerIsolation', WHERE WHAT IT READS IS OF BULK AT MOST 1048576: true; the input reads as it did. -/
def fnServerIsolationUptoRow : OpenClaim := { program := "ytipnemngphglkaa", sum := "54da47718d117d6412c40c87526e935e4891fb33dd2f6b198cd747f078b1c17f", func := "loop.example/deadlinescheduler/laws.FnServerIsolation", spec := "fnServerIsolation", unfollowed := true, recurses := true, apart := false, narrowed := true }
def FnServerIsolationUptoSaid : Prop := fnServerIsolationUptoRow.holds Try.pinned (OpenSpec.upto fnServerIsolationSpec)

/-- 'laws.FnServerOrder', WHERE WHAT IT READS IS OF BULK AT MOST 1048576: true; the input reads as it did. -/
def fnServerOrderUptoRow : OpenClaim := { program := "ytipnemngphglkaa", sum := "54da47718d117d6412c40c87526e935e4891fb33dd2f6b198cd747f078b1c17f", func := "loop.example/deadlinescheduler/laws.FnServerOrder", spec := "fnServerOrder", unfollowed := true, recurses := true, apart := false, narrowed := true }
def FnServerOrderUptoSaid : Prop := fnServerOrderUptoRow.holds Try.pinned (OpenSpec.upto fnServerOrderSpec)

/-- 'laws.FnServerIdle', WHERE WHAT IT READS IS OF BULK AT MOST 1048576: true; the input reads as it did. -/
def fnServerIdleUptoRow : OpenClaim := { program := "ytipnemngphglkaa", sum := "54da47718d117d6412c40c87526e935e4891fb33dd2f6b198cd747f078b1c17f", func := "loop.example/deadlinescheduler/laws.FnServerIdle", spec := "fnServerIdle", unfollowed := true, recurses := true, apart := false, narrowed := true }
def FnServerIdleUptoSaid : Prop := fnServerIdleUptoRow.holds Try.pinned (OpenSpec.upto fnServerIdleSpec)

/-- 'laws.FnServerShare', WHERE WHAT IT READS IS OF BULK AT MOST 1048576: true; the input reads as it did. -/
def fnServerShareUptoRow : OpenClaim := { program := "ytipnemngphglkaa", sum := "54da47718d117d6412c40c87526e935e4891fb33dd2f6b198cd747f078b1c17f", func := "loop.example/deadlinescheduler/laws.FnServerShare", spec := "fnServerShare", unfollowed := true, recurses := true, apart := false, narrowed := true }
def FnServerShareUptoSaid : Prop := fnServerShareUptoRow.holds Try.pinned (OpenSpec.upto fnServerShareSpec)

/-- 'laws.FnExactServersValid', WHERE WHAT IT READS IS OF BULK AT MOST 1048576: true; the input reads as it did. -/
def fnExactServersValidUptoRow : OpenClaim := { program := "ytipnemngphglkaa", sum := "54da47718d117d6412c40c87526e935e4891fb33dd2f6b198cd747f078b1c17f", func := "loop.example/deadlinescheduler/laws.FnExactServersValid", spec := "fnExactServersValid", unfollowed := true, recurses := true, apart := false, narrowed := true }
def FnExactServersValidUptoSaid : Prop := fnExactServersValidUptoRow.holds Try.pinned (OpenSpec.upto fnExactServersValidSpec)

/-- 'laws.FnExactArrivalsLegal', WHERE WHAT IT READS IS OF BULK AT MOST 1048576: true; the input reads as it did. -/
def fnExactArrivalsLegalUptoRow : OpenClaim := { program := "ytipnemngphglkaa", sum := "54da47718d117d6412c40c87526e935e4891fb33dd2f6b198cd747f078b1c17f", func := "loop.example/deadlinescheduler/laws.FnExactArrivalsLegal", spec := "fnExactArrivalsLegal", unfollowed := true, recurses := true, apart := false, narrowed := true }
def FnExactArrivalsLegalUptoSaid : Prop := fnExactArrivalsLegalUptoRow.holds Try.pinned (OpenSpec.upto fnExactArrivalsLegalSpec)

/-- 'laws.FnExactServersFeasible', WHERE WHAT IT READS IS OF BULK AT MOST 1048576: true; the input reads as it did. -/
def fnExactServersFeasibleUptoRow : OpenClaim := { program := "ytipnemngphglkaa", sum := "54da47718d117d6412c40c87526e935e4891fb33dd2f6b198cd747f078b1c17f", func := "loop.example/deadlinescheduler/laws.FnExactServersFeasible", spec := "fnExactServersFeasible", unfollowed := true, recurses := true, apart := false, narrowed := true }
def FnExactServersFeasibleUptoSaid : Prop := fnExactServersFeasibleUptoRow.holds Try.pinned (OpenSpec.upto fnExactServersFeasibleSpec)

/-- 'laws.FnExactRunServers', WHERE WHAT IT READS IS OF BULK AT MOST 1048576: true; the input reads as it did. -/
def fnExactRunServersUptoRow : OpenClaim := { program := "ytipnemngphglkaa", sum := "54da47718d117d6412c40c87526e935e4891fb33dd2f6b198cd747f078b1c17f", func := "loop.example/deadlinescheduler/laws.FnExactRunServers", spec := "fnExactRunServers", unfollowed := true, recurses := true, apart := false, narrowed := true }
def FnExactRunServersUptoSaid : Prop := fnExactRunServersUptoRow.holds Try.pinned (OpenSpec.upto fnExactRunServersSpec)

end Rows
end Go.Proofs.Ytipnemngphglkaa
