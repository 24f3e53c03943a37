/-
  NARROWER THAN 'FOR EVERY INPUT', by the rows' own cells (each row's printed sentence says how): ClockEncodes: laid · ClockDecodes: laid · ClockSeconds: laid · ClockCounts: laid · ClockDays: laid.
  DERIVED. THE GIVEN ROWS OF THIS SEAT. 5 by the template 'for every input the law returns true; each argument reads behind the call as it read before'; 0 by the template 'total and deterministic' (their statements: YtneeddbonhiflaaDoorTotals.lean).
  GIVEN WITH THE SEED: the statements are not yours to turn. If you find one false, say at which input.
  Laid BY PROGRAM, IN A SANDBOX (cutbox-rows.mjs): the forced cells as the released guide's own fill.sh prints them over the translation dfa94226457b31d2… (all of the seat's roots in one cut). By AI agents, Wed Nov 11 2026. No macro, syntax, notation, axiom, sorry.
-/
import Derived.Test.YtneeddbonhiflaaDoorChecked
import GoSem.Claim
import GoSem.ClaimJoined
import GoSem.ClaimMapViews
import Derived.JoinedTies
import Derived.KernelRfl
namespace Go.Proofs.YtneeddbonhiflaaDoor
/- THE CELL 'sum', in the pinned program and in every row, IS THE sha256 OF THE DUMP (.gsa) THAT YtneeddbonhiflaaDoorProg.lean LOADS. Nothing in Lean hashes anything: it is a label: what it is worth is what the hold of that sum in a sandbox is worth. -/
noncomputable def Tryd.pinned : Pinned := { name := "ytneeddbonhiflaadoor", sum := "dfa94226457b31d23be0bf6e81687320c038d84468de9f776c3c4f8cdae73561", checked := Tryd.checked }
namespace Rows
def none {H : Type} : Left H := { results := [], args := [] }

/- WHAT THE LISTED PACKAGE-LEVEL VARIABLES READ AS WHEN THE CALL BEGINS. Each datum BY PROGRAM (the guide's laid-datum.mjs) off the statement by which the dump's own 'gosem.cut.vars' lays the variable. In a bare row this is a premise. The card (YtneeddbonhiflaaDoorCards.lean) ties it to the program's text. -/
def laid_cretula_clock_lengths {H : Type} : DataW H := .agg [.lit (.int .i64 31), .lit (.int .i64 28), .lit (.int .i64 31), .lit (.int .i64 30), .lit (.int .i64 31), .lit (.int .i64 30), .lit (.int .i64 31), .lit (.int .i64 31), .lit (.int .i64 30), .lit (.int .i64 31), .lit (.int .i64 30), .lit (.int .i64 31)]

/-- 'cretulalaw08.ClockEncodes': WHATEVER THE INPUT: true; the input reads as it did. -/
def clockEncodesSpec : ChangeSpec := { name := "clockEncodes", fn := fun _ => fun
  | [d] => { results := [.lit (.bool true)], args := [d] }
  | _ => none }
def clockEncodesRow : OpenClaim := { program := "ytneeddbonhiflaadoor", sum := "dfa94226457b31d23be0bf6e81687320c038d84468de9f776c3c4f8cdae73561", func := "cretula/cretulalaw08.ClockEncodes", spec := "clockEncodes", unfollowed := true, recurses := true, named := ["cretula/clock.lengths"], apart := false, laid := [("cretula/clock.lengths", laid_cretula_clock_lengths)] }
def ClockEncodesSaid : Prop := clockEncodesRow.holds Tryd.pinned (OpenSpec.ofChange clockEncodesSpec)

/-- ITS FALSE NEIGHBOUR: 'it returns false'. Refute it at one input. -/
def clockEncodesWrong : ChangeSpec := { name := "clockEncodes", fn := fun _ => fun
  | [d] => { results := [.lit (.bool false)], args := [d] }
  | _ => none }
def ClockEncodesWrongFalsely : Prop := clockEncodesRow.holds Tryd.pinned (OpenSpec.ofChange clockEncodesWrong)

/-- 'cretulalaw08.ClockDecodes': WHATEVER THE INPUT: true; the input reads as it did. -/
def clockDecodesSpec : ChangeSpec := { name := "clockDecodes", fn := fun _ => fun
  | [d] => { results := [.lit (.bool true)], args := [d] }
  | _ => none }
def clockDecodesRow : OpenClaim := { program := "ytneeddbonhiflaadoor", sum := "dfa94226457b31d23be0bf6e81687320c038d84468de9f776c3c4f8cdae73561", func := "cretula/cretulalaw08.ClockDecodes", spec := "clockDecodes", unfollowed := true, recurses := true, named := ["cretula/clock.lengths"], apart := false, laid := [("cretula/clock.lengths", laid_cretula_clock_lengths)] }
def ClockDecodesSaid : Prop := clockDecodesRow.holds Tryd.pinned (OpenSpec.ofChange clockDecodesSpec)

/-- ITS FALSE NEIGHBOUR: 'it returns false'. Refute it at one input. -/
def clockDecodesWrong : ChangeSpec := { name := "clockDecodes", fn := fun _ => fun
  | [d] => { results := [.lit (.bool false)], args := [d] }
  | _ => none }
def ClockDecodesWrongFalsely : Prop := clockDecodesRow.holds Tryd.pinned (OpenSpec.ofChange clockDecodesWrong)

/-- 'cretulalaw08.ClockSeconds': WHATEVER THE INPUT: true; the input reads as it did. -/
def clockSecondsSpec : ChangeSpec := { name := "clockSeconds", fn := fun _ => fun
  | [d1, d2] => { results := [.lit (.bool true)], args := [d1, d2] }
  | _ => none }
def clockSecondsRow : OpenClaim := { program := "ytneeddbonhiflaadoor", sum := "dfa94226457b31d23be0bf6e81687320c038d84468de9f776c3c4f8cdae73561", func := "cretula/cretulalaw08.ClockSeconds", spec := "clockSeconds", unfollowed := true, recurses := true, named := ["cretula/clock.lengths"], apart := false, laid := [("cretula/clock.lengths", laid_cretula_clock_lengths)] }
def ClockSecondsSaid : Prop := clockSecondsRow.holds Tryd.pinned (OpenSpec.ofChange clockSecondsSpec)

/-- ITS FALSE NEIGHBOUR: 'it returns false'. Refute it at one input. -/
def clockSecondsWrong : ChangeSpec := { name := "clockSeconds", fn := fun _ => fun
  | [d1, d2] => { results := [.lit (.bool false)], args := [d1, d2] }
  | _ => none }
def ClockSecondsWrongFalsely : Prop := clockSecondsRow.holds Tryd.pinned (OpenSpec.ofChange clockSecondsWrong)

/-- 'cretulalaw08.ClockCounts': WHATEVER THE INPUT: true; the input reads as it did. -/
def clockCountsSpec : ChangeSpec := { name := "clockCounts", fn := fun _ => fun
  | [d] => { results := [.lit (.bool true)], args := [d] }
  | _ => none }
def clockCountsRow : OpenClaim := { program := "ytneeddbonhiflaadoor", sum := "dfa94226457b31d23be0bf6e81687320c038d84468de9f776c3c4f8cdae73561", func := "cretula/cretulalaw08.ClockCounts", spec := "clockCounts", unfollowed := true, recurses := true, named := ["cretula/clock.lengths"], apart := false, laid := [("cretula/clock.lengths", laid_cretula_clock_lengths)] }
def ClockCountsSaid : Prop := clockCountsRow.holds Tryd.pinned (OpenSpec.ofChange clockCountsSpec)

/-- ITS FALSE NEIGHBOUR: 'it returns false'. Refute it at one input. -/
def clockCountsWrong : ChangeSpec := { name := "clockCounts", fn := fun _ => fun
  | [d] => { results := [.lit (.bool false)], args := [d] }
  | _ => none }
def ClockCountsWrongFalsely : Prop := clockCountsRow.holds Tryd.pinned (OpenSpec.ofChange clockCountsWrong)

/-- 'cretulalaw08.ClockDays': WHATEVER THE INPUT: true; the input reads as it did. -/
def clockDaysSpec : ChangeSpec := { name := "clockDays", fn := fun _ => fun
  | [d1, d2, d3] => { results := [.lit (.bool true)], args := [d1, d2, d3] }
  | _ => none }
def clockDaysRow : OpenClaim := { program := "ytneeddbonhiflaadoor", sum := "dfa94226457b31d23be0bf6e81687320c038d84468de9f776c3c4f8cdae73561", func := "cretula/cretulalaw08.ClockDays", spec := "clockDays", unfollowed := true, recurses := true, named := ["cretula/clock.lengths"], apart := false, laid := [("cretula/clock.lengths", laid_cretula_clock_lengths)] }
def ClockDaysSaid : Prop := clockDaysRow.holds Tryd.pinned (OpenSpec.ofChange clockDaysSpec)

/-- ITS FALSE NEIGHBOUR: 'it returns false'. Refute it at one input. -/
def clockDaysWrong : ChangeSpec := { name := "clockDays", fn := fun _ => fun
  | [d1, d2, d3] => { results := [.lit (.bool false)], args := [d1, d2, d3] }
  | _ => none }
def ClockDaysWrongFalsely : Prop := clockDaysRow.holds Tryd.pinned (OpenSpec.ofChange clockDaysWrong)

/- THE SECOND FORM. 'bulk': how many values and letters a reading holds, each counted each time it is reached (what is shared counts as often as it is met; a slice's spare places count too). A statement '..UptoSaid' is the law's where the arguments, and the package variables that the reading takes, are together of bulk at most 1048576: NARROWER than '..Said'. Prove '..Said' where nothing that the law and all that it calls make is longer than what came in: it says more and counts as full. Else prove '..UptoSaid'. A law counts once. -/
mutual
def uptoBulk {H : Type} : DataW H → Nat
  | .lit (.string bytes) => bytes.length + 1
  | .lit _ => 1
  | .nil => 1
  | .ptr d => uptoBulk d + 1
  | .slice elems spare => uptoBulkAll elems + uptoBulkAll spare + 1
  | .agg parts => uptoBulkAll parts + 1
  | .iface _ d => uptoBulk d + 1
  | .map entries => uptoBulkEntries entries + 1
  | .held _ => 1
def uptoBulkAll {H : Type} : List (DataW H) → Nat
  | [] => 0
  | d :: r => uptoBulk d + uptoBulkAll r
def uptoBulkEntries {H : Type} : List (Lit × DataW H) → Nat
  | [] => 0
  | x :: r => uptoBulkEntry x + uptoBulkEntries r
def uptoBulkEntry {H : Type} : Lit × DataW H → Nat
  | (.string bytes, d) => bytes.length + uptoBulk d + 1
  | (_, d) => uptoBulk d + 1
 end
def uptoSmall : (H : Type) → List (DataW H) → Bool := fun _ ds => decide (uptoBulkAll ds ≤ 1048576)
def OpenSpec.upto (s : _root_.Go.ChangeSpec) : _root_.Go.OpenSpec := { _root_.Go.OpenSpec.ofChange s with cond := some uptoSmall }

/-- 'cretulalaw08.ClockEncodes', WHERE WHAT IT READS IS OF BULK AT MOST 1048576: true; the input reads as it did. -/
def clockEncodesUptoRow : OpenClaim := { program := "ytneeddbonhiflaadoor", sum := "dfa94226457b31d23be0bf6e81687320c038d84468de9f776c3c4f8cdae73561", func := "cretula/cretulalaw08.ClockEncodes", spec := "clockEncodes", unfollowed := true, recurses := true, named := ["cretula/clock.lengths"], apart := false, laid := [("cretula/clock.lengths", laid_cretula_clock_lengths)], narrowed := true }
def ClockEncodesUptoSaid : Prop := clockEncodesUptoRow.holds Tryd.pinned (OpenSpec.upto clockEncodesSpec)

/-- 'cretulalaw08.ClockDecodes', WHERE WHAT IT READS IS OF BULK AT MOST 1048576: true; the input reads as it did. -/
def clockDecodesUptoRow : OpenClaim := { program := "ytneeddbonhiflaadoor", sum := "dfa94226457b31d23be0bf6e81687320c038d84468de9f776c3c4f8cdae73561", func := "cretula/cretulalaw08.ClockDecodes", spec := "clockDecodes", unfollowed := true, recurses := true, named := ["cretula/clock.lengths"], apart := false, laid := [("cretula/clock.lengths", laid_cretula_clock_lengths)], narrowed := true }
def ClockDecodesUptoSaid : Prop := clockDecodesUptoRow.holds Tryd.pinned (OpenSpec.upto clockDecodesSpec)

/-- 'cretulalaw08.ClockSeconds', WHERE WHAT IT READS IS OF BULK AT MOST 1048576: true; the input reads as it did. -/
def clockSecondsUptoRow : OpenClaim := { program := "ytneeddbonhiflaadoor", sum := "dfa94226457b31d23be0bf6e81687320c038d84468de9f776c3c4f8cdae73561", func := "cretula/cretulalaw08.ClockSeconds", spec := "clockSeconds", unfollowed := true, recurses := true, named := ["cretula/clock.lengths"], apart := false, laid := [("cretula/clock.lengths", laid_cretula_clock_lengths)], narrowed := true }
def ClockSecondsUptoSaid : Prop := clockSecondsUptoRow.holds Tryd.pinned (OpenSpec.upto clockSecondsSpec)

/-- 'cretulalaw08.ClockCounts', WHERE WHAT IT READS IS OF BULK AT MOST 1048576: true; the input reads as it did. -/
def clockCountsUptoRow : OpenClaim := { program := "ytneeddbonhiflaadoor", sum := "dfa94226457b31d23be0bf6e81687320c038d84468de9f776c3c4f8cdae73561", func := "cretula/cretulalaw08.ClockCounts", spec := "clockCounts", unfollowed := true, recurses := true, named := ["cretula/clock.lengths"], apart := false, laid := [("cretula/clock.lengths", laid_cretula_clock_lengths)], narrowed := true }
def ClockCountsUptoSaid : Prop := clockCountsUptoRow.holds Tryd.pinned (OpenSpec.upto clockCountsSpec)

/-- 'cretulalaw08.ClockDays', WHERE WHAT IT READS IS OF BULK AT MOST 1048576: true; the input reads as it did. -/
def clockDaysUptoRow : OpenClaim := { program := "ytneeddbonhiflaadoor", sum := "dfa94226457b31d23be0bf6e81687320c038d84468de9f776c3c4f8cdae73561", func := "cretula/cretulalaw08.ClockDays", spec := "clockDays", unfollowed := true, recurses := true, named := ["cretula/clock.lengths"], apart := false, laid := [("cretula/clock.lengths", laid_cretula_clock_lengths)], narrowed := true }
def ClockDaysUptoSaid : Prop := clockDaysUptoRow.holds Tryd.pinned (OpenSpec.upto clockDaysSpec)

end Rows
end Go.Proofs.YtneeddbonhiflaaDoor
