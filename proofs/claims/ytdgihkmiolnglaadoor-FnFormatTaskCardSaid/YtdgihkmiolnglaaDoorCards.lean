/-
  DERIVED. GIVEN WITH THE SEED: THE CARDS: each row of YtdgihkmiolnglaaDoorRows.lean that lists a variable, with what it lists TIED to the program's text (the seventh form; the later family's looks); each row that meets fmt, with fmt's text TOLD by the authors' own Lean function (tested against real Go, not proved from fmt's source: count such statements apart). THE CARD IS WHAT COUNTS. Prove the row's statement (the work); the ties are given (YtdgihkmiolnglaaDoorTie.lean); close each card by the builder's one call (the guide's Derived/Test/ToyasCard.lean, 'card_holds'). Laid BY PROGRAM, IN A SANDBOX (cutbox-door.mjs). By AI agents, Wed Nov 11 2026. No macro, syntax, notation, axiom, sorry.
-/
import Derived.Test.YtdgihkmiolnglaaDoorRows
import GoSem.ClaimSeven
namespace Go.Proofs.YtdgihkmiolnglaaDoor
namespace Rows

/-- THE TIED CARD OF 'laws.FnFormatTask'. -/
def fnFormatTaskCard : Claim7 := { stood := { row := fnFormatTaskRow, standIns := [], harness := (true, "1fe6019aed4d7f591db8589a0960dc1d3b145144daea382315863b81e73f63ef"), looks := true }, kinds := [], alts := [], laidByText := true, laidKinds := [.data, .data, .data, .sentinel, .sentinel], laidTests := true, laidLooks := .later }
def FnFormatTaskCardSaid : Prop := Claim7.holds Tryd.pinned (.plain (OpenSpec.ofChange fnFormatTaskSpec)) fnFormatTaskCard

/-- THE TIED CARD OF 'laws.FnExactFormatTask'. -/
def fnExactFormatTaskCard : Claim7 := { stood := { row := fnExactFormatTaskRow, standIns := [], harness := (true, "1fe6019aed4d7f591db8589a0960dc1d3b145144daea382315863b81e73f63ef"), looks := true }, kinds := [], alts := [], laidByText := true, laidKinds := [.data, .data, .data], laidTests := true, laidLooks := .later }
def FnExactFormatTaskCardSaid : Prop := Claim7.holds Tryd.pinned (.plain (OpenSpec.ofChange fnExactFormatTaskSpec)) fnExactFormatTaskCard

/-- THE TIED CARD OF 'laws.FnExactParseTask'. -/
def fnExactParseTaskCard : Claim7 := { stood := { row := fnExactParseTaskRow, standIns := [], harness := (true, "1fe6019aed4d7f591db8589a0960dc1d3b145144daea382315863b81e73f63ef"), looks := true }, kinds := [], alts := [], laidByText := true, laidKinds := [.data, .data, .data, .sentinel, .sentinel], laidTests := true, laidLooks := .later }
def FnExactParseTaskCardSaid : Prop := Claim7.holds Tryd.pinned (.plain (OpenSpec.ofChange fnExactParseTaskSpec)) fnExactParseTaskCard

/-- THE SECOND FORM's CARD OF 'laws.FnFormatTask'. -/
def fnFormatTaskUptoCard : Claim7 := { stood := { row := fnFormatTaskUptoRow, standIns := [], harness := (true, "1fe6019aed4d7f591db8589a0960dc1d3b145144daea382315863b81e73f63ef"), looks := true }, kinds := [], alts := [], laidByText := true, laidKinds := [.data, .data, .data, .sentinel, .sentinel], laidTests := true, laidLooks := .later }
def FnFormatTaskUptoCardSaid : Prop := Claim7.holds Tryd.pinned (.plain (OpenSpec.upto fnFormatTaskSpec)) fnFormatTaskUptoCard

/-- THE SECOND FORM's CARD OF 'laws.FnExactFormatTask'. -/
def fnExactFormatTaskUptoCard : Claim7 := { stood := { row := fnExactFormatTaskUptoRow, standIns := [], harness := (true, "1fe6019aed4d7f591db8589a0960dc1d3b145144daea382315863b81e73f63ef"), looks := true }, kinds := [], alts := [], laidByText := true, laidKinds := [.data, .data, .data], laidTests := true, laidLooks := .later }
def FnExactFormatTaskUptoCardSaid : Prop := Claim7.holds Tryd.pinned (.plain (OpenSpec.upto fnExactFormatTaskSpec)) fnExactFormatTaskUptoCard

/-- THE SECOND FORM's CARD OF 'laws.FnExactParseTask'. -/
def fnExactParseTaskUptoCard : Claim7 := { stood := { row := fnExactParseTaskUptoRow, standIns := [], harness := (true, "1fe6019aed4d7f591db8589a0960dc1d3b145144daea382315863b81e73f63ef"), looks := true }, kinds := [], alts := [], laidByText := true, laidKinds := [.data, .data, .data, .sentinel, .sentinel], laidTests := true, laidLooks := .later }
def FnExactParseTaskUptoCardSaid : Prop := Claim7.holds Tryd.pinned (.plain (OpenSpec.upto fnExactParseTaskSpec)) fnExactParseTaskUptoCard
end Rows
end Go.Proofs.YtdgihkmiolnglaaDoor
