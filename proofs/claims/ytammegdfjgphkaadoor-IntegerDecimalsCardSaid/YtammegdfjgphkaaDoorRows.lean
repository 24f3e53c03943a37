/-
  NARROWER THAN 'FOR EVERY INPUT', by the rows' own cells (each row's printed sentence says how): IntegerSimple: laid · IntegerReads: laid · IntegerInverse: laid · IntegerOrders: laid · IntegerDecimals: laid · IntegerKeeps: laid.
  DERIVED. THE GIVEN ROWS OF THIS SEAT. 6 by the template 'for every input the law returns true; each argument reads behind the call as it read before'; 0 by the template 'total and deterministic' (their statements: YtammegdfjgphkaaDoorTotals.lean).
  GIVEN WITH THE SEED: the statements are not yours to turn. If you find one false, say at which input.
  Laid BY PROGRAM, IN A SANDBOX (cutbox-rows.mjs): the forced cells as the released guide's own fill.sh prints them over the translation 53327772d1655398… (all of the seat's roots in one cut). By AI agents, Wed Nov 11 2026. No macro, syntax, notation, axiom, sorry.
-/
import Derived.Test.YtammegdfjgphkaaDoorChecked
import GoSem.PinnedTables
import GoSem.Claim
import GoSem.ClaimJoined
import GoSem.ClaimMapViews
import Derived.JoinedTies
import Derived.KernelRfl
namespace Go.Proofs.YtammegdfjgphkaaDoor
/- THE CELL 'sum', in the pinned program and in every row, IS THE sha256 OF THE DUMP (.gsa) THAT YtammegdfjgphkaaDoorProg.lean LOADS. Nothing in Lean hashes anything: it is a label: what it is worth is what the hold of that sum in a sandbox is worth. -/
noncomputable def Tryd.pinned : Pinned := { name := "ytammegdfjgphkaadoor", sum := "53327772d16553985af8436eec1ed39e540c029073429af3200f56261b145f23", checked := Tryd.checked }
namespace Rows
def none {H : Type} : Left H := { results := [], args := [] }

/- WHAT THE LISTED PACKAGE-LEVEL VARIABLES READ AS WHEN THE CALL BEGINS. Each datum BY PROGRAM (the guide's laid-datum.mjs) off the statement by which the dump's own 'gosem.cut.vars' lays the variable. In a bare row this is a premise. The card (YtammegdfjgphkaaDoorCards.lean) ties it to the program's text. -/
def laid_unicode_utf8_acceptRanges {H : Type} : DataW H := .agg [.agg [.lit (.int .u8 128), .lit (.int .u8 191)], .agg [.lit (.int .u8 160), .lit (.int .u8 191)], .agg [.lit (.int .u8 128), .lit (.int .u8 159)], .agg [.lit (.int .u8 144), .lit (.int .u8 191)], .agg [.lit (.int .u8 128), .lit (.int .u8 143)], .agg [.lit (.int .u8 0), .lit (.int .u8 0)], .agg [.lit (.int .u8 0), .lit (.int .u8 0)], .agg [.lit (.int .u8 0), .lit (.int .u8 0)], .agg [.lit (.int .u8 0), .lit (.int .u8 0)], .agg [.lit (.int .u8 0), .lit (.int .u8 0)], .agg [.lit (.int .u8 0), .lit (.int .u8 0)], .agg [.lit (.int .u8 0), .lit (.int .u8 0)], .agg [.lit (.int .u8 0), .lit (.int .u8 0)], .agg [.lit (.int .u8 0), .lit (.int .u8 0)], .agg [.lit (.int .u8 0), .lit (.int .u8 0)], .agg [.lit (.int .u8 0), .lit (.int .u8 0)]]
/-- One of Go's own tables, pinned by name: the form's constant. -/
def laid_unicode_utf8_first : DataW Unit := Go.Pinned.utf8First

/-- 'cretulalaw04.IntegerSimple': WHATEVER THE INPUT: true; the input reads as it did. -/
def integerSimpleSpec : ChangeSpec := { name := "integerSimple", fn := fun _ => fun
  | [d1, d2] => { results := [.lit (.bool true)], args := [d1, d2] }
  | _ => none }
def integerSimpleRow : OpenClaim := { program := "ytammegdfjgphkaadoor", sum := "53327772d16553985af8436eec1ed39e540c029073429af3200f56261b145f23", func := "cretula/cretulalaw04.IntegerSimple", spec := "integerSimple", named := ["unicode/utf8.first", "unicode/utf8.acceptRanges"], apart := false, laid := [("unicode/utf8.acceptRanges", laid_unicode_utf8_acceptRanges), ("unicode/utf8.first", laid_unicode_utf8_first)] }
def IntegerSimpleSaid : Prop := integerSimpleRow.holds Tryd.pinned (OpenSpec.ofChange integerSimpleSpec)

/-- ITS FALSE NEIGHBOUR: 'it returns false'. Refute it at one input. -/
def integerSimpleWrong : ChangeSpec := { name := "integerSimple", fn := fun _ => fun
  | [d1, d2] => { results := [.lit (.bool false)], args := [d1, d2] }
  | _ => none }
def IntegerSimpleWrongFalsely : Prop := integerSimpleRow.holds Tryd.pinned (OpenSpec.ofChange integerSimpleWrong)

/-- 'cretulalaw04.IntegerReads': WHATEVER THE INPUT: true; the input reads as it did. -/
def integerReadsSpec : ChangeSpec := { name := "integerReads", fn := fun _ => fun
  | [d] => { results := [.lit (.bool true)], args := [d] }
  | _ => none }
def integerReadsRow : OpenClaim := { program := "ytammegdfjgphkaadoor", sum := "53327772d16553985af8436eec1ed39e540c029073429af3200f56261b145f23", func := "cretula/cretulalaw04.IntegerReads", spec := "integerReads", named := ["unicode/utf8.first", "unicode/utf8.acceptRanges"], apart := false, laid := [("unicode/utf8.acceptRanges", laid_unicode_utf8_acceptRanges), ("unicode/utf8.first", laid_unicode_utf8_first)] }
def IntegerReadsSaid : Prop := integerReadsRow.holds Tryd.pinned (OpenSpec.ofChange integerReadsSpec)

/-- ITS FALSE NEIGHBOUR: 'it returns false'. Refute it at one input. -/
def integerReadsWrong : ChangeSpec := { name := "integerReads", fn := fun _ => fun
  | [d] => { results := [.lit (.bool false)], args := [d] }
  | _ => none }
def IntegerReadsWrongFalsely : Prop := integerReadsRow.holds Tryd.pinned (OpenSpec.ofChange integerReadsWrong)

/-- 'cretulalaw04.IntegerInverse': WHATEVER THE INPUT: true; the input reads as it did. -/
def integerInverseSpec : ChangeSpec := { name := "integerInverse", fn := fun _ => fun
  | [d1, d2] => { results := [.lit (.bool true)], args := [d1, d2] }
  | _ => none }
def integerInverseRow : OpenClaim := { program := "ytammegdfjgphkaadoor", sum := "53327772d16553985af8436eec1ed39e540c029073429af3200f56261b145f23", func := "cretula/cretulalaw04.IntegerInverse", spec := "integerInverse", recurses := true, named := ["unicode/utf8.first", "unicode/utf8.acceptRanges"], apart := false, laid := [("unicode/utf8.acceptRanges", laid_unicode_utf8_acceptRanges), ("unicode/utf8.first", laid_unicode_utf8_first)] }
def IntegerInverseSaid : Prop := integerInverseRow.holds Tryd.pinned (OpenSpec.ofChange integerInverseSpec)

/-- ITS FALSE NEIGHBOUR: 'it returns false'. Refute it at one input. -/
def integerInverseWrong : ChangeSpec := { name := "integerInverse", fn := fun _ => fun
  | [d1, d2] => { results := [.lit (.bool false)], args := [d1, d2] }
  | _ => none }
def IntegerInverseWrongFalsely : Prop := integerInverseRow.holds Tryd.pinned (OpenSpec.ofChange integerInverseWrong)

/-- 'cretulalaw04.IntegerOrders': WHATEVER THE INPUT: true; the input reads as it did. -/
def integerOrdersSpec : ChangeSpec := { name := "integerOrders", fn := fun _ => fun
  | [d1, d2, d3] => { results := [.lit (.bool true)], args := [d1, d2, d3] }
  | _ => none }
def integerOrdersRow : OpenClaim := { program := "ytammegdfjgphkaadoor", sum := "53327772d16553985af8436eec1ed39e540c029073429af3200f56261b145f23", func := "cretula/cretulalaw04.IntegerOrders", spec := "integerOrders", unfollowed := true, recurses := true, named := ["unicode/utf8.first", "unicode/utf8.acceptRanges"], apart := false, laid := [("unicode/utf8.acceptRanges", laid_unicode_utf8_acceptRanges), ("unicode/utf8.first", laid_unicode_utf8_first)] }
def IntegerOrdersSaid : Prop := integerOrdersRow.holds Tryd.pinned (OpenSpec.ofChange integerOrdersSpec)

/-- ITS FALSE NEIGHBOUR: 'it returns false'. Refute it at one input. -/
def integerOrdersWrong : ChangeSpec := { name := "integerOrders", fn := fun _ => fun
  | [d1, d2, d3] => { results := [.lit (.bool false)], args := [d1, d2, d3] }
  | _ => none }
def IntegerOrdersWrongFalsely : Prop := integerOrdersRow.holds Tryd.pinned (OpenSpec.ofChange integerOrdersWrong)

/-- 'cretulalaw04.IntegerDecimals': WHATEVER THE INPUT: true; the input reads as it did. -/
def integerDecimalsSpec : ChangeSpec := { name := "integerDecimals", fn := fun _ => fun
  | [d1, d2] => { results := [.lit (.bool true)], args := [d1, d2] }
  | _ => none }
def integerDecimalsRow : OpenClaim := { program := "ytammegdfjgphkaadoor", sum := "53327772d16553985af8436eec1ed39e540c029073429af3200f56261b145f23", func := "cretula/cretulalaw04.IntegerDecimals", spec := "integerDecimals", named := ["unicode/utf8.first", "unicode/utf8.acceptRanges"], apart := false, laid := [("unicode/utf8.acceptRanges", laid_unicode_utf8_acceptRanges), ("unicode/utf8.first", laid_unicode_utf8_first)] }
def IntegerDecimalsSaid : Prop := integerDecimalsRow.holds Tryd.pinned (OpenSpec.ofChange integerDecimalsSpec)

/-- ITS FALSE NEIGHBOUR: 'it returns false'. Refute it at one input. -/
def integerDecimalsWrong : ChangeSpec := { name := "integerDecimals", fn := fun _ => fun
  | [d1, d2] => { results := [.lit (.bool false)], args := [d1, d2] }
  | _ => none }
def IntegerDecimalsWrongFalsely : Prop := integerDecimalsRow.holds Tryd.pinned (OpenSpec.ofChange integerDecimalsWrong)

/-- 'cretulalaw04.IntegerKeeps': WHATEVER THE INPUT: true; the input reads as it did. -/
def integerKeepsSpec : ChangeSpec := { name := "integerKeeps", fn := fun _ => fun
  | [d] => { results := [.lit (.bool true)], args := [d] }
  | _ => none }
def integerKeepsRow : OpenClaim := { program := "ytammegdfjgphkaadoor", sum := "53327772d16553985af8436eec1ed39e540c029073429af3200f56261b145f23", func := "cretula/cretulalaw04.IntegerKeeps", spec := "integerKeeps", named := ["unicode/utf8.first", "unicode/utf8.acceptRanges"], apart := false, laid := [("unicode/utf8.acceptRanges", laid_unicode_utf8_acceptRanges), ("unicode/utf8.first", laid_unicode_utf8_first)] }
def IntegerKeepsSaid : Prop := integerKeepsRow.holds Tryd.pinned (OpenSpec.ofChange integerKeepsSpec)

/-- ITS FALSE NEIGHBOUR: 'it returns false'. Refute it at one input. -/
def integerKeepsWrong : ChangeSpec := { name := "integerKeeps", fn := fun _ => fun
  | [d] => { results := [.lit (.bool false)], args := [d] }
  | _ => none }
def IntegerKeepsWrongFalsely : Prop := integerKeepsRow.holds Tryd.pinned (OpenSpec.ofChange integerKeepsWrong)

/- THE SECOND FORM. 'bulk': how many values and letters a reading holds, each counted each time it is reached (what is shared counts as often as it is met; a slice's spare places count too). A statement '..UptoSaid' is the law's where the arguments, and the package variables that the reading takes, are together of bulk at most 1048576: NARROWER than '..Said'. Prove '..Said' where nothing that the law and all that it calls make is longer than what came in: it says more and counts as full. Else prove '..UptoSaid'. A law counts once. -/
mutual
def uptoBulk {H : Type} : DataW H → Nat
  | .lit (.string bytes) => bytes.length + 1
  | .lit _ => 1
  | .nil => 1
  | .ptr d => uptoBulk d + 1
  | .slice elems spare => uptoBulkAll elems + uptoBulkAll spare + 1
  | .agg parts => uptoBulkAll parts + 1
  | .iface _ d => uptoBulk d + 1
  | .map entries => uptoBulkEntries entries + 1
  | .held _ => 1
def uptoBulkAll {H : Type} : List (DataW H) → Nat
  | [] => 0
  | d :: r => uptoBulk d + uptoBulkAll r
def uptoBulkEntries {H : Type} : List (Lit × DataW H) → Nat
  | [] => 0
  | x :: r => uptoBulkEntry x + uptoBulkEntries r
def uptoBulkEntry {H : Type} : Lit × DataW H → Nat
  | (.string bytes, d) => bytes.length + uptoBulk d + 1
  | (_, d) => uptoBulk d + 1
 end
def uptoSmall : (H : Type) → List (DataW H) → Bool := fun _ ds => decide (uptoBulkAll ds ≤ 1048576)
def OpenSpec.upto (s : _root_.Go.ChangeSpec) : _root_.Go.OpenSpec := { _root_.Go.OpenSpec.ofChange s with cond := some uptoSmall }

/-- 'cretulalaw04.IntegerSimple', WHERE WHAT IT READS IS OF BULK AT MOST 1048576: true; the input reads as it did. -/
def integerSimpleUptoRow : OpenClaim := { program := "ytammegdfjgphkaadoor", sum := "53327772d16553985af8436eec1ed39e540c029073429af3200f56261b145f23", func := "cretula/cretulalaw04.IntegerSimple", spec := "integerSimple", named := ["unicode/utf8.first", "unicode/utf8.acceptRanges"], apart := false, laid := [("unicode/utf8.acceptRanges", laid_unicode_utf8_acceptRanges), ("unicode/utf8.first", laid_unicode_utf8_first)], narrowed := true }
def IntegerSimpleUptoSaid : Prop := integerSimpleUptoRow.holds Tryd.pinned (OpenSpec.upto integerSimpleSpec)

/-- 'cretulalaw04.IntegerReads', WHERE WHAT IT READS IS OF BULK AT MOST 1048576: true; the input reads as it did. -/
def integerReadsUptoRow : OpenClaim := { program := "ytammegdfjgphkaadoor", sum := "53327772d16553985af8436eec1ed39e540c029073429af3200f56261b145f23", func := "cretula/cretulalaw04.IntegerReads", spec := "integerReads", named := ["unicode/utf8.first", "unicode/utf8.acceptRanges"], apart := false, laid := [("unicode/utf8.acceptRanges", laid_unicode_utf8_acceptRanges), ("unicode/utf8.first", laid_unicode_utf8_first)], narrowed := true }
def IntegerReadsUptoSaid : Prop := integerReadsUptoRow.holds Tryd.pinned (OpenSpec.upto integerReadsSpec)

/-- 'cretulalaw04.IntegerInverse', WHERE WHAT IT READS IS OF BULK AT MOST 1048576: true; the input reads as it did. -/
def integerInverseUptoRow : OpenClaim := { program := "ytammegdfjgphkaadoor", sum := "53327772d16553985af8436eec1ed39e540c029073429af3200f56261b145f23", func := "cretula/cretulalaw04.IntegerInverse", spec := "integerInverse", recurses := true, named := ["unicode/utf8.first", "unicode/utf8.acceptRanges"], apart := false, laid := [("unicode/utf8.acceptRanges", laid_unicode_utf8_acceptRanges), ("unicode/utf8.first", laid_unicode_utf8_first)], narrowed := true }
def IntegerInverseUptoSaid : Prop := integerInverseUptoRow.holds Tryd.pinned (OpenSpec.upto integerInverseSpec)

/-- 'cretulalaw04.IntegerOrders', WHERE WHAT IT READS IS OF BULK AT MOST 1048576: true; the input reads as it did. -/
def integerOrdersUptoRow : OpenClaim := { program := "ytammegdfjgphkaadoor", sum := "53327772d16553985af8436eec1ed39e540c029073429af3200f56261b145f23", func := "cretula/cretulalaw04.IntegerOrders", spec := "integerOrders", unfollowed := true, recurses := true, named := ["unicode/utf8.first", "unicode/utf8.acceptRanges"], apart := false, laid := [("unicode/utf8.acceptRanges", laid_unicode_utf8_acceptRanges), ("unicode/utf8.first", laid_unicode_utf8_first)], narrowed := true }
def IntegerOrdersUptoSaid : Prop := integerOrdersUptoRow.holds Tryd.pinned (OpenSpec.upto integerOrdersSpec)

/-- 'cretulalaw04.IntegerDecimals', WHERE WHAT IT READS IS OF BULK AT MOST 1048576: true; the input reads as it did. -/
def integerDecimalsUptoRow : OpenClaim := { program := "ytammegdfjgphkaadoor", sum := "53327772d16553985af8436eec1ed39e540c029073429af3200f56261b145f23", func := "cretula/cretulalaw04.IntegerDecimals", spec := "integerDecimals", named := ["unicode/utf8.first", "unicode/utf8.acceptRanges"], apart := false, laid := [("unicode/utf8.acceptRanges", laid_unicode_utf8_acceptRanges), ("unicode/utf8.first", laid_unicode_utf8_first)], narrowed := true }
def IntegerDecimalsUptoSaid : Prop := integerDecimalsUptoRow.holds Tryd.pinned (OpenSpec.upto integerDecimalsSpec)

/-- 'cretulalaw04.IntegerKeeps', WHERE WHAT IT READS IS OF BULK AT MOST 1048576: true; the input reads as it did. -/
def integerKeepsUptoRow : OpenClaim := { program := "ytammegdfjgphkaadoor", sum := "53327772d16553985af8436eec1ed39e540c029073429af3200f56261b145f23", func := "cretula/cretulalaw04.IntegerKeeps", spec := "integerKeeps", named := ["unicode/utf8.first", "unicode/utf8.acceptRanges"], apart := false, laid := [("unicode/utf8.acceptRanges", laid_unicode_utf8_acceptRanges), ("unicode/utf8.first", laid_unicode_utf8_first)], narrowed := true }
def IntegerKeepsUptoSaid : Prop := integerKeepsUptoRow.holds Tryd.pinned (OpenSpec.upto integerKeepsSpec)

end Rows
end Go.Proofs.YtammegdfjgphkaaDoor
