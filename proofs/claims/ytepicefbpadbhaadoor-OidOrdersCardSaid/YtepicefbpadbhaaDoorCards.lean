/-
  DERIVED. GIVEN WITH THE SEED: THE CARDS: each row of YtepicefbpadbhaaDoorRows.lean that lists a variable, with what it lists TIED to the program's text (the seventh form; the later family's looks); each row that meets fmt, with fmt's text TOLD by the authors' own Lean function (tested against real Go, not proved from fmt's source: count such statements apart). THE CARD IS WHAT COUNTS. Prove the row's statement (the work); the ties are given (YtepicefbpadbhaaDoorTie.lean); close each card by the builder's one call (the guide's Derived/Test/ToyasCard.lean, 'card_holds'). Laid BY PROGRAM, IN A SANDBOX (cutbox-door.mjs). By AI agents, Wed Nov 11 2026. No macro, syntax, notation, axiom, sorry.
-/
import Derived.Test.YtepicefbpadbhaaDoorRows
import GoSem.ClaimSeven
namespace Go.Proofs.YtepicefbpadbhaaDoor
namespace Rows

/-- THE TIED CARD OF 'cretulalaw05.OidTexts'. -/
def oidTextsCard : Claim7 := { stood := { row := oidTextsRow, standIns := [], harness := (true, "8d6a58c457296900a3c4c5fd4c4a0c058eb8438f6491c4f2cc50270b7d2bf908"), looks := true }, kinds := [], alts := [], laidByText := true, laidKinds := [.data, .data, .data, .data, .sentinel, .sentinel, .pinned], laidTests := true, laidLooks := .later }
def OidTextsCardSaid : Prop := Claim7.holds Tryd.pinned (.plain (OpenSpec.ofChange oidTextsSpec)) oidTextsCard

/-- THE TIED CARD OF 'cretulalaw05.OidEncodes'. -/
def oidEncodesCard : Claim7 := { stood := { row := oidEncodesRow, standIns := [], harness := (true, "8d6a58c457296900a3c4c5fd4c4a0c058eb8438f6491c4f2cc50270b7d2bf908"), looks := true }, kinds := [], alts := [], laidByText := true, laidKinds := [.data, .data, .data, .data, .sentinel, .sentinel, .pinned], laidTests := true, laidLooks := .later }
def OidEncodesCardSaid : Prop := Claim7.holds Tryd.pinned (.plain (OpenSpec.ofChange oidEncodesSpec)) oidEncodesCard

/-- THE TIED CARD OF 'cretulalaw05.OidInverse'. -/
def oidInverseCard : Claim7 := { stood := { row := oidInverseRow, standIns := [], harness := (true, "8d6a58c457296900a3c4c5fd4c4a0c058eb8438f6491c4f2cc50270b7d2bf908"), looks := true }, kinds := [], alts := [], laidByText := true, laidKinds := [.data, .data, .data, .data, .sentinel, .sentinel, .pinned], laidTests := true, laidLooks := .later }
def OidInverseCardSaid : Prop := Claim7.holds Tryd.pinned (.plain (OpenSpec.ofChange oidInverseSpec)) oidInverseCard

/-- THE TIED CARD OF 'cretulalaw05.OidOrders'. -/
def oidOrdersCard : Claim7 := { stood := { row := oidOrdersRow, standIns := [], harness := (true, "8d6a58c457296900a3c4c5fd4c4a0c058eb8438f6491c4f2cc50270b7d2bf908"), looks := true }, kinds := [], alts := [], laidByText := true, laidKinds := [.data, .data, .data, .data, .sentinel, .sentinel, .pinned], laidTests := true, laidLooks := .later }
def OidOrdersCardSaid : Prop := Claim7.holds Tryd.pinned (.plain (OpenSpec.ofChange oidOrdersSpec)) oidOrdersCard

/-- THE TIED CARD OF 'cretulalaw05.OidChanged'. -/
def oidChangedCard : Claim7 := { stood := { row := oidChangedRow, standIns := [], harness := (true, "8d6a58c457296900a3c4c5fd4c4a0c058eb8438f6491c4f2cc50270b7d2bf908"), looks := true }, kinds := [], alts := [], laidByText := true, laidKinds := [.data, .data, .data, .data, .sentinel, .sentinel, .pinned], laidTests := true, laidLooks := .later }
def OidChangedCardSaid : Prop := Claim7.holds Tryd.pinned (.plain (OpenSpec.ofChange oidChangedSpec)) oidChangedCard

/-- THE SECOND FORM's CARD OF 'cretulalaw05.OidTexts'. -/
def oidTextsUptoCard : Claim7 := { stood := { row := oidTextsUptoRow, standIns := [], harness := (true, "8d6a58c457296900a3c4c5fd4c4a0c058eb8438f6491c4f2cc50270b7d2bf908"), looks := true }, kinds := [], alts := [], laidByText := true, laidKinds := [.data, .data, .data, .data, .sentinel, .sentinel, .pinned], laidTests := true, laidLooks := .later }
def OidTextsUptoCardSaid : Prop := Claim7.holds Tryd.pinned (.plain (OpenSpec.upto oidTextsSpec)) oidTextsUptoCard

/-- THE SECOND FORM's CARD OF 'cretulalaw05.OidEncodes'. -/
def oidEncodesUptoCard : Claim7 := { stood := { row := oidEncodesUptoRow, standIns := [], harness := (true, "8d6a58c457296900a3c4c5fd4c4a0c058eb8438f6491c4f2cc50270b7d2bf908"), looks := true }, kinds := [], alts := [], laidByText := true, laidKinds := [.data, .data, .data, .data, .sentinel, .sentinel, .pinned], laidTests := true, laidLooks := .later }
def OidEncodesUptoCardSaid : Prop := Claim7.holds Tryd.pinned (.plain (OpenSpec.upto oidEncodesSpec)) oidEncodesUptoCard

/-- THE SECOND FORM's CARD OF 'cretulalaw05.OidInverse'. -/
def oidInverseUptoCard : Claim7 := { stood := { row := oidInverseUptoRow, standIns := [], harness := (true, "8d6a58c457296900a3c4c5fd4c4a0c058eb8438f6491c4f2cc50270b7d2bf908"), looks := true }, kinds := [], alts := [], laidByText := true, laidKinds := [.data, .data, .data, .data, .sentinel, .sentinel, .pinned], laidTests := true, laidLooks := .later }
def OidInverseUptoCardSaid : Prop := Claim7.holds Tryd.pinned (.plain (OpenSpec.upto oidInverseSpec)) oidInverseUptoCard

/-- THE SECOND FORM's CARD OF 'cretulalaw05.OidOrders'. -/
def oidOrdersUptoCard : Claim7 := { stood := { row := oidOrdersUptoRow, standIns := [], harness := (true, "8d6a58c457296900a3c4c5fd4c4a0c058eb8438f6491c4f2cc50270b7d2bf908"), looks := true }, kinds := [], alts := [], laidByText := true, laidKinds := [.data, .data, .data, .data, .sentinel, .sentinel, .pinned], laidTests := true, laidLooks := .later }
def OidOrdersUptoCardSaid : Prop := Claim7.holds Tryd.pinned (.plain (OpenSpec.upto oidOrdersSpec)) oidOrdersUptoCard

/-- THE SECOND FORM's CARD OF 'cretulalaw05.OidChanged'. -/
def oidChangedUptoCard : Claim7 := { stood := { row := oidChangedUptoRow, standIns := [], harness := (true, "8d6a58c457296900a3c4c5fd4c4a0c058eb8438f6491c4f2cc50270b7d2bf908"), looks := true }, kinds := [], alts := [], laidByText := true, laidKinds := [.data, .data, .data, .data, .sentinel, .sentinel, .pinned], laidTests := true, laidLooks := .later }
def OidChangedUptoCardSaid : Prop := Claim7.holds Tryd.pinned (.plain (OpenSpec.upto oidChangedSpec)) oidChangedUptoCard
end Rows
end Go.Proofs.YtepicefbpadbhaaDoor
