/-
  DERIVED. GIVEN WITH THE SEED: THE CARDS: each row of YtneeddbonhiflaaDoorRows.lean that lists a variable, with what it lists TIED to the program's text (the seventh form; the later family's looks); each row that meets fmt, with fmt's text TOLD by the authors' own Lean function (tested against real Go, not proved from fmt's source: count such statements apart). THE CARD IS WHAT COUNTS. Prove the row's statement (the work); the ties are given (YtneeddbonhiflaaDoorTie.lean); close each card by the builder's one call (the guide's Derived/Test/ToyasCard.lean, 'card_holds'). Laid BY PROGRAM, IN A SANDBOX (cutbox-door.mjs). By AI agents, Wed Nov 11 2026. No macro, syntax, notation, axiom, sorry.
-/
import Derived.Test.YtneeddbonhiflaaDoorRows
import GoSem.ClaimSeven
namespace Go.Proofs.YtneeddbonhiflaaDoor
namespace Rows

/-- THE TIED CARD OF 'cretulalaw08.ClockEncodes'. -/
def clockEncodesCard : Claim7 := { stood := { row := clockEncodesRow, standIns := [], harness := (true, "edee42a6ad502e73b25af2e1656a8443ddd5e4757fb7ed98817e0aa0512e9318"), looks := false }, kinds := [], alts := [], laidByText := true, laidKinds := [.data], laidTests := true, laidLooks := .later }
def ClockEncodesCardSaid : Prop := Claim7.holds Tryd.pinned (.plain (OpenSpec.ofChange clockEncodesSpec)) clockEncodesCard

/-- THE TIED CARD OF 'cretulalaw08.ClockDecodes'. -/
def clockDecodesCard : Claim7 := { stood := { row := clockDecodesRow, standIns := [], harness := (true, "edee42a6ad502e73b25af2e1656a8443ddd5e4757fb7ed98817e0aa0512e9318"), looks := false }, kinds := [], alts := [], laidByText := true, laidKinds := [.data], laidTests := true, laidLooks := .later }
def ClockDecodesCardSaid : Prop := Claim7.holds Tryd.pinned (.plain (OpenSpec.ofChange clockDecodesSpec)) clockDecodesCard

/-- THE TIED CARD OF 'cretulalaw08.ClockSeconds'. -/
def clockSecondsCard : Claim7 := { stood := { row := clockSecondsRow, standIns := [], harness := (true, "edee42a6ad502e73b25af2e1656a8443ddd5e4757fb7ed98817e0aa0512e9318"), looks := false }, kinds := [], alts := [], laidByText := true, laidKinds := [.data], laidTests := true, laidLooks := .later }
def ClockSecondsCardSaid : Prop := Claim7.holds Tryd.pinned (.plain (OpenSpec.ofChange clockSecondsSpec)) clockSecondsCard

/-- THE TIED CARD OF 'cretulalaw08.ClockCounts'. -/
def clockCountsCard : Claim7 := { stood := { row := clockCountsRow, standIns := [], harness := (true, "edee42a6ad502e73b25af2e1656a8443ddd5e4757fb7ed98817e0aa0512e9318"), looks := false }, kinds := [], alts := [], laidByText := true, laidKinds := [.data], laidTests := true, laidLooks := .later }
def ClockCountsCardSaid : Prop := Claim7.holds Tryd.pinned (.plain (OpenSpec.ofChange clockCountsSpec)) clockCountsCard

/-- THE TIED CARD OF 'cretulalaw08.ClockDays'. -/
def clockDaysCard : Claim7 := { stood := { row := clockDaysRow, standIns := [], harness := (true, "edee42a6ad502e73b25af2e1656a8443ddd5e4757fb7ed98817e0aa0512e9318"), looks := false }, kinds := [], alts := [], laidByText := true, laidKinds := [.data], laidTests := true, laidLooks := .later }
def ClockDaysCardSaid : Prop := Claim7.holds Tryd.pinned (.plain (OpenSpec.ofChange clockDaysSpec)) clockDaysCard

/-- THE SECOND FORM's CARD OF 'cretulalaw08.ClockEncodes'. -/
def clockEncodesUptoCard : Claim7 := { stood := { row := clockEncodesUptoRow, standIns := [], harness := (true, "edee42a6ad502e73b25af2e1656a8443ddd5e4757fb7ed98817e0aa0512e9318"), looks := false }, kinds := [], alts := [], laidByText := true, laidKinds := [.data], laidTests := true, laidLooks := .later }
def ClockEncodesUptoCardSaid : Prop := Claim7.holds Tryd.pinned (.plain (OpenSpec.upto clockEncodesSpec)) clockEncodesUptoCard

/-- THE SECOND FORM's CARD OF 'cretulalaw08.ClockDecodes'. -/
def clockDecodesUptoCard : Claim7 := { stood := { row := clockDecodesUptoRow, standIns := [], harness := (true, "edee42a6ad502e73b25af2e1656a8443ddd5e4757fb7ed98817e0aa0512e9318"), looks := false }, kinds := [], alts := [], laidByText := true, laidKinds := [.data], laidTests := true, laidLooks := .later }
def ClockDecodesUptoCardSaid : Prop := Claim7.holds Tryd.pinned (.plain (OpenSpec.upto clockDecodesSpec)) clockDecodesUptoCard

/-- THE SECOND FORM's CARD OF 'cretulalaw08.ClockSeconds'. -/
def clockSecondsUptoCard : Claim7 := { stood := { row := clockSecondsUptoRow, standIns := [], harness := (true, "edee42a6ad502e73b25af2e1656a8443ddd5e4757fb7ed98817e0aa0512e9318"), looks := false }, kinds := [], alts := [], laidByText := true, laidKinds := [.data], laidTests := true, laidLooks := .later }
def ClockSecondsUptoCardSaid : Prop := Claim7.holds Tryd.pinned (.plain (OpenSpec.upto clockSecondsSpec)) clockSecondsUptoCard

/-- THE SECOND FORM's CARD OF 'cretulalaw08.ClockCounts'. -/
def clockCountsUptoCard : Claim7 := { stood := { row := clockCountsUptoRow, standIns := [], harness := (true, "edee42a6ad502e73b25af2e1656a8443ddd5e4757fb7ed98817e0aa0512e9318"), looks := false }, kinds := [], alts := [], laidByText := true, laidKinds := [.data], laidTests := true, laidLooks := .later }
def ClockCountsUptoCardSaid : Prop := Claim7.holds Tryd.pinned (.plain (OpenSpec.upto clockCountsSpec)) clockCountsUptoCard

/-- THE SECOND FORM's CARD OF 'cretulalaw08.ClockDays'. -/
def clockDaysUptoCard : Claim7 := { stood := { row := clockDaysUptoRow, standIns := [], harness := (true, "edee42a6ad502e73b25af2e1656a8443ddd5e4757fb7ed98817e0aa0512e9318"), looks := false }, kinds := [], alts := [], laidByText := true, laidKinds := [.data], laidTests := true, laidLooks := .later }
def ClockDaysUptoCardSaid : Prop := Claim7.holds Tryd.pinned (.plain (OpenSpec.upto clockDaysSpec)) clockDaysUptoCard
end Rows
end Go.Proofs.YtneeddbonhiflaaDoor
