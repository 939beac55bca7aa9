/-
  DERIVED. GIVEN WITH THE SEED: THE CARDS: each row of YtdhdodmpfbgliaaDoorRows.lean that lists a variable, with what it lists TIED to the program's text (the seventh form; the later family's looks); each row that meets fmt, with fmt's text TOLD by the authors' own Lean function (tested against real Go, not proved from fmt's source: count such statements apart). THE CARD IS WHAT COUNTS. Prove the row's statement (the work); the ties are given (YtdhdodmpfbgliaaDoorTie.lean); close each card by the builder's one call (the guide's Derived/Test/ToyasCard.lean, 'card_holds'). Laid BY PROGRAM, IN A SANDBOX (cutbox-door.mjs). By AI agents, Wed Nov 11 2026. No macro, syntax, notation, axiom, sorry.
-/
import Derived.Test.YtdhdodmpfbgliaaDoorRows
import GoSem.ClaimSeven
namespace Go.Proofs.YtdhdodmpfbgliaaDoor
namespace Rows

/-- THE TIED CARD OF 'laws.FnCheckEdf'. -/
def fnCheckEdfCard : Claim7 := { stood := { row := fnCheckEdfRow, standIns := [], harness := (true, "944317ddb5f8347b0a7973794214965f03ab1c6d91e4b9e1df9ae3c65558a5bf"), looks := true }, kinds := [], alts := [], laidByText := true, laidKinds := [.handle], laidTests := true, laidLooks := .later }
def FnCheckEdfCardSaid : Prop := Claim7.holds Tryd.pinned (.plain (OpenSpec.ofChange fnCheckEdfSpec)) fnCheckEdfCard

/-- THE TIED CARD OF 'laws.FnCheckSound'. -/
def fnCheckSoundCard : Claim7 := { stood := { row := fnCheckSoundRow, standIns := [], harness := (true, "944317ddb5f8347b0a7973794214965f03ab1c6d91e4b9e1df9ae3c65558a5bf"), looks := true }, kinds := [], alts := [], laidByText := true, laidKinds := [.handle], laidTests := true, laidLooks := .later }
def FnCheckSoundCardSaid : Prop := Claim7.holds Tryd.pinned (.plain (OpenSpec.ofChange fnCheckSoundSpec)) fnCheckSoundCard

/-- THE TIED CARD OF 'laws.FnCheckTamper'. -/
def fnCheckTamperCard : Claim7 := { stood := { row := fnCheckTamperRow, standIns := [], harness := (true, "944317ddb5f8347b0a7973794214965f03ab1c6d91e4b9e1df9ae3c65558a5bf"), looks := true }, kinds := [], alts := [], laidByText := true, laidKinds := [.handle], laidTests := true, laidLooks := .later }
def FnCheckTamperCardSaid : Prop := Claim7.holds Tryd.pinned (.plain (OpenSpec.ofChange fnCheckTamperSpec)) fnCheckTamperCard

/-- THE TIED CARD OF 'laws.FnCheckLength'. -/
def fnCheckLengthCard : Claim7 := { stood := { row := fnCheckLengthRow, standIns := [], harness := (true, "944317ddb5f8347b0a7973794214965f03ab1c6d91e4b9e1df9ae3c65558a5bf"), looks := true }, kinds := [], alts := [], laidByText := true, laidKinds := [.handle], laidTests := true, laidLooks := .later }
def FnCheckLengthCardSaid : Prop := Claim7.holds Tryd.pinned (.plain (OpenSpec.ofChange fnCheckLengthSpec)) fnCheckLengthCard

/-- THE TIED CARD OF 'laws.FnExactCheckSchedule'. -/
def fnExactCheckScheduleCard : Claim7 := { stood := { row := fnExactCheckScheduleRow, standIns := [], harness := (true, "944317ddb5f8347b0a7973794214965f03ab1c6d91e4b9e1df9ae3c65558a5bf"), looks := true }, kinds := [], alts := [], laidByText := true, laidKinds := [.handle], laidTests := true, laidLooks := .later }
def FnExactCheckScheduleCardSaid : Prop := Claim7.holds Tryd.pinned (.plain (OpenSpec.ofChange fnExactCheckScheduleSpec)) fnExactCheckScheduleCard

/-- THE SECOND FORM's CARD OF 'laws.FnCheckEdf'. -/
def fnCheckEdfUptoCard : Claim7 := { stood := { row := fnCheckEdfUptoRow, standIns := [], harness := (true, "944317ddb5f8347b0a7973794214965f03ab1c6d91e4b9e1df9ae3c65558a5bf"), looks := true }, kinds := [], alts := [], laidByText := true, laidKinds := [.handle], laidTests := true, laidLooks := .later }
def FnCheckEdfUptoCardSaid : Prop := Claim7.holds Tryd.pinned (.plain (OpenSpec.upto fnCheckEdfSpec)) fnCheckEdfUptoCard

/-- THE SECOND FORM's CARD OF 'laws.FnCheckSound'. -/
def fnCheckSoundUptoCard : Claim7 := { stood := { row := fnCheckSoundUptoRow, standIns := [], harness := (true, "944317ddb5f8347b0a7973794214965f03ab1c6d91e4b9e1df9ae3c65558a5bf"), looks := true }, kinds := [], alts := [], laidByText := true, laidKinds := [.handle], laidTests := true, laidLooks := .later }
def FnCheckSoundUptoCardSaid : Prop := Claim7.holds Tryd.pinned (.plain (OpenSpec.upto fnCheckSoundSpec)) fnCheckSoundUptoCard

/-- THE SECOND FORM's CARD OF 'laws.FnCheckTamper'. -/
def fnCheckTamperUptoCard : Claim7 := { stood := { row := fnCheckTamperUptoRow, standIns := [], harness := (true, "944317ddb5f8347b0a7973794214965f03ab1c6d91e4b9e1df9ae3c65558a5bf"), looks := true }, kinds := [], alts := [], laidByText := true, laidKinds := [.handle], laidTests := true, laidLooks := .later }
def FnCheckTamperUptoCardSaid : Prop := Claim7.holds Tryd.pinned (.plain (OpenSpec.upto fnCheckTamperSpec)) fnCheckTamperUptoCard

/-- THE SECOND FORM's CARD OF 'laws.FnCheckLength'. -/
def fnCheckLengthUptoCard : Claim7 := { stood := { row := fnCheckLengthUptoRow, standIns := [], harness := (true, "944317ddb5f8347b0a7973794214965f03ab1c6d91e4b9e1df9ae3c65558a5bf"), looks := true }, kinds := [], alts := [], laidByText := true, laidKinds := [.handle], laidTests := true, laidLooks := .later }
def FnCheckLengthUptoCardSaid : Prop := Claim7.holds Tryd.pinned (.plain (OpenSpec.upto fnCheckLengthSpec)) fnCheckLengthUptoCard

/-- THE SECOND FORM's CARD OF 'laws.FnExactCheckSchedule'. -/
def fnExactCheckScheduleUptoCard : Claim7 := { stood := { row := fnExactCheckScheduleUptoRow, standIns := [], harness := (true, "944317ddb5f8347b0a7973794214965f03ab1c6d91e4b9e1df9ae3c65558a5bf"), looks := true }, kinds := [], alts := [], laidByText := true, laidKinds := [.handle], laidTests := true, laidLooks := .later }
def FnExactCheckScheduleUptoCardSaid : Prop := Claim7.holds Tryd.pinned (.plain (OpenSpec.upto fnExactCheckScheduleSpec)) fnExactCheckScheduleUptoCard
end Rows
end Go.Proofs.YtdhdodmpfbgliaaDoor
