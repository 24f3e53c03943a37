/-
  DERIVED. GIVEN WITH THE SEED: THE CARDS: each row of YtammegdfjgphkaaDoorRows.lean that lists a variable, with what it lists TIED to the program's text (the seventh form; the later family's looks); each row that meets fmt, with fmt's text TOLD by the authors' own Lean function (tested against real Go, not proved from fmt's source: count such statements apart). THE CARD IS WHAT COUNTS. Prove the row's statement (the work); the ties are given (YtammegdfjgphkaaDoorTie.lean); close each card by the builder's one call (the guide's Derived/Test/ToyasCard.lean, 'card_holds'). Laid BY PROGRAM, IN A SANDBOX (cutbox-door.mjs). By AI agents, Wed Nov 11 2026. No macro, syntax, notation, axiom, sorry.
-/
import Derived.Test.YtammegdfjgphkaaDoorRows
import GoSem.ClaimSeven
namespace Go.Proofs.YtammegdfjgphkaaDoor
namespace Rows

/-- THE TIED CARD OF 'cretulalaw04.IntegerSimple'. -/
def integerSimpleCard : Claim7 := { stood := { row := integerSimpleRow, standIns := [], harness := (true, "2931109bfe7df9eb01d5cfd4db1dd72e3d139fdcc42d0051edec06254b1d4c27"), looks := false }, kinds := [], alts := [], laidByText := true, laidKinds := [.data, .pinned], laidTests := true, laidLooks := .later }
def IntegerSimpleCardSaid : Prop := Claim7.holds Tryd.pinned (.plain (OpenSpec.ofChange integerSimpleSpec)) integerSimpleCard

/-- THE TIED CARD OF 'cretulalaw04.IntegerReads'. -/
def integerReadsCard : Claim7 := { stood := { row := integerReadsRow, standIns := [], harness := (true, "2931109bfe7df9eb01d5cfd4db1dd72e3d139fdcc42d0051edec06254b1d4c27"), looks := false }, kinds := [], alts := [], laidByText := true, laidKinds := [.data, .pinned], laidTests := true, laidLooks := .later }
def IntegerReadsCardSaid : Prop := Claim7.holds Tryd.pinned (.plain (OpenSpec.ofChange integerReadsSpec)) integerReadsCard

/-- THE TIED CARD OF 'cretulalaw04.IntegerInverse'. -/
def integerInverseCard : Claim7 := { stood := { row := integerInverseRow, standIns := [], harness := (true, "2931109bfe7df9eb01d5cfd4db1dd72e3d139fdcc42d0051edec06254b1d4c27"), looks := false }, kinds := [], alts := [], laidByText := true, laidKinds := [.data, .pinned], laidTests := true, laidLooks := .later }
def IntegerInverseCardSaid : Prop := Claim7.holds Tryd.pinned (.plain (OpenSpec.ofChange integerInverseSpec)) integerInverseCard

/-- THE TIED CARD OF 'cretulalaw04.IntegerOrders'. -/
def integerOrdersCard : Claim7 := { stood := { row := integerOrdersRow, standIns := [], harness := (true, "2931109bfe7df9eb01d5cfd4db1dd72e3d139fdcc42d0051edec06254b1d4c27"), looks := false }, kinds := [], alts := [], laidByText := true, laidKinds := [.data, .pinned], laidTests := true, laidLooks := .later }
def IntegerOrdersCardSaid : Prop := Claim7.holds Tryd.pinned (.plain (OpenSpec.ofChange integerOrdersSpec)) integerOrdersCard

/-- THE TIED CARD OF 'cretulalaw04.IntegerDecimals'. -/
def integerDecimalsCard : Claim7 := { stood := { row := integerDecimalsRow, standIns := [], harness := (true, "2931109bfe7df9eb01d5cfd4db1dd72e3d139fdcc42d0051edec06254b1d4c27"), looks := false }, kinds := [], alts := [], laidByText := true, laidKinds := [.data, .pinned], laidTests := true, laidLooks := .later }
def IntegerDecimalsCardSaid : Prop := Claim7.holds Tryd.pinned (.plain (OpenSpec.ofChange integerDecimalsSpec)) integerDecimalsCard

/-- THE TIED CARD OF 'cretulalaw04.IntegerKeeps'. -/
def integerKeepsCard : Claim7 := { stood := { row := integerKeepsRow, standIns := [], harness := (true, "2931109bfe7df9eb01d5cfd4db1dd72e3d139fdcc42d0051edec06254b1d4c27"), looks := false }, kinds := [], alts := [], laidByText := true, laidKinds := [.data, .pinned], laidTests := true, laidLooks := .later }
def IntegerKeepsCardSaid : Prop := Claim7.holds Tryd.pinned (.plain (OpenSpec.ofChange integerKeepsSpec)) integerKeepsCard

/-- THE SECOND FORM's CARD OF 'cretulalaw04.IntegerSimple'. -/
def integerSimpleUptoCard : Claim7 := { stood := { row := integerSimpleUptoRow, standIns := [], harness := (true, "2931109bfe7df9eb01d5cfd4db1dd72e3d139fdcc42d0051edec06254b1d4c27"), looks := false }, kinds := [], alts := [], laidByText := true, laidKinds := [.data, .pinned], laidTests := true, laidLooks := .later }
def IntegerSimpleUptoCardSaid : Prop := Claim7.holds Tryd.pinned (.plain (OpenSpec.upto integerSimpleSpec)) integerSimpleUptoCard

/-- THE SECOND FORM's CARD OF 'cretulalaw04.IntegerReads'. -/
def integerReadsUptoCard : Claim7 := { stood := { row := integerReadsUptoRow, standIns := [], harness := (true, "2931109bfe7df9eb01d5cfd4db1dd72e3d139fdcc42d0051edec06254b1d4c27"), looks := false }, kinds := [], alts := [], laidByText := true, laidKinds := [.data, .pinned], laidTests := true, laidLooks := .later }
def IntegerReadsUptoCardSaid : Prop := Claim7.holds Tryd.pinned (.plain (OpenSpec.upto integerReadsSpec)) integerReadsUptoCard

/-- THE SECOND FORM's CARD OF 'cretulalaw04.IntegerInverse'. -/
def integerInverseUptoCard : Claim7 := { stood := { row := integerInverseUptoRow, standIns := [], harness := (true, "2931109bfe7df9eb01d5cfd4db1dd72e3d139fdcc42d0051edec06254b1d4c27"), looks := false }, kinds := [], alts := [], laidByText := true, laidKinds := [.data, .pinned], laidTests := true, laidLooks := .later }
def IntegerInverseUptoCardSaid : Prop := Claim7.holds Tryd.pinned (.plain (OpenSpec.upto integerInverseSpec)) integerInverseUptoCard

/-- THE SECOND FORM's CARD OF 'cretulalaw04.IntegerOrders'. -/
def integerOrdersUptoCard : Claim7 := { stood := { row := integerOrdersUptoRow, standIns := [], harness := (true, "2931109bfe7df9eb01d5cfd4db1dd72e3d139fdcc42d0051edec06254b1d4c27"), looks := false }, kinds := [], alts := [], laidByText := true, laidKinds := [.data, .pinned], laidTests := true, laidLooks := .later }
def IntegerOrdersUptoCardSaid : Prop := Claim7.holds Tryd.pinned (.plain (OpenSpec.upto integerOrdersSpec)) integerOrdersUptoCard

/-- THE SECOND FORM's CARD OF 'cretulalaw04.IntegerDecimals'. -/
def integerDecimalsUptoCard : Claim7 := { stood := { row := integerDecimalsUptoRow, standIns := [], harness := (true, "2931109bfe7df9eb01d5cfd4db1dd72e3d139fdcc42d0051edec06254b1d4c27"), looks := false }, kinds := [], alts := [], laidByText := true, laidKinds := [.data, .pinned], laidTests := true, laidLooks := .later }
def IntegerDecimalsUptoCardSaid : Prop := Claim7.holds Tryd.pinned (.plain (OpenSpec.upto integerDecimalsSpec)) integerDecimalsUptoCard

/-- THE SECOND FORM's CARD OF 'cretulalaw04.IntegerKeeps'. -/
def integerKeepsUptoCard : Claim7 := { stood := { row := integerKeepsUptoRow, standIns := [], harness := (true, "2931109bfe7df9eb01d5cfd4db1dd72e3d139fdcc42d0051edec06254b1d4c27"), looks := false }, kinds := [], alts := [], laidByText := true, laidKinds := [.data, .pinned], laidTests := true, laidLooks := .later }
def IntegerKeepsUptoCardSaid : Prop := Claim7.holds Tryd.pinned (.plain (OpenSpec.upto integerKeepsSpec)) integerKeepsUptoCard
end Rows
end Go.Proofs.YtammegdfjgphkaaDoor
