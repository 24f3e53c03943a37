/-
  The program's table, looked up at a kind.
-/
import Derived.Test.YtkmpmphabohkkaaDoorChTable
namespace Go.Proofs.YtkmpmphabohkkaaDoor
open Go.RowKit

def fnK (k : Int) : Value :=
  if k = 12 ∨ k = 28 then .func (.func 41) #[] #[] else if k = 19 then .func (.func 42) #[] #[] else if k = 20 then .func (.func 43) #[] #[]
  else if k = 22 then .func (.func 44) #[] #[] else if k = 26 then .func (.func 45) #[] #[] else if k = 30 then .func (.func 46) #[] #[] else .nilFunc
def wdK (k : Int) : Int := if 0 ≤ widK k then widK k else 0
theorem look_any {w : World} {b : Nat} (hb : w.heap[b]? = some (.map tblE 7)) (k : Int) :
    (Instr.lookup 49 (.map (some b)) (.int .i64 k) true).run Tryd.prog w = .ok (.tuple #[.agg #[fnK k, .int .i64 (wdK k)], .bool (decide (0 ≤ widK k))]) w := by
  have hm : Tryd.prog.underlying 49 = some (.map 3 47) := Tryd.underlying49
  have hk : Tryd.prog.underlying 3 = some (.int .i64) := Tryd.underlying3
  have hz : (zeroValue 47).run Tryd.prog w = .ok (.agg #[.nilFunc, .int .i64 0]) w := by kernel_rfl
  have hu := run_underlying (w := w) hm
  have hc : (Instr.checkKey tblE.isEmpty 10000 3 (.int .i64 k)).run Tryd.prog w = .ok () w := MapKept.run_checkKey hk (by simp [MapKept.IsKey]) _ 9999
  have hf : ∀ a, Instr.findNow (.int .i64) (.int .i64 k) tblE.toList 0 = some a → (Instr.findKey 3 (.int .i64 k) tblE.toList).run Tryd.prog w = .ok a w := fun a h => MapKept.run_findKey hk h
  have yes : ∀ (i : Nat) (v : Value), Instr.findNow (.int .i64) (.int .i64 k) tblE.toList 0 = some (some (i, v)) → v = .agg #[fnK k, .int .i64 (wdK k)] → 0 ≤ widK k →
      (Instr.lookup 49 (.map (some b)) (.int .i64 k) true).run Tryd.prog w = .ok (.tuple #[.agg #[fnK k, .int .i64 (wdK k)], .bool (decide (0 ≤ widK k))]) w := by
    intro i v h1 h2 h3
    have h4 := hf _ h1
    rw [decide_eq_true h3, ← h2]
    simp [Instr.lookup, hu, MapKept.run_getObj_map hb, hc, h4, Result.andThen]
  have no : k ≠ 12 → k ≠ 19 → k ≠ 20 → k ≠ 22 → k ≠ 26 → k ≠ 28 → k ≠ 30 →
      (Instr.lookup 49 (.map (some b)) (.int .i64 k) true).run Tryd.prog w = .ok (.tuple #[.agg #[fnK k, .int .i64 (wdK k)], .bool (decide (0 ≤ widK k))]) w := by
    intro h1 h2 h3 h4 h5 h6 h7
    have hw : widK k = -1 := by unfold widK; rw [if_neg h1, if_neg h6, if_neg h7, if_neg (by omega)]
    have h8 := hf none (by
      unfold tblE
      simp only [Instr.findNow, Instr.sameNow, if_true]
      rw [beq_false_of_ne h1, beq_false_of_ne h2, beq_false_of_ne h3, beq_false_of_ne h4, beq_false_of_ne h5, beq_false_of_ne h6, beq_false_of_ne h7])
    have e1 : fnK k = .nilFunc := by unfold fnK; rw [if_neg (by omega), if_neg h2, if_neg h3, if_neg h4, if_neg h5, if_neg h7]
    have e2 : wdK k = 0 := by unfold wdK; rw [hw]; rfl
    rw [e1, e2, hw]
    simp [Instr.lookup, hu, MapKept.run_getObj_map hb, hc, h8, hz, Result.andThen]
  by_cases h1 : k = 12
  · subst h1; exact yes 0 _ rfl rfl (by decide)
  by_cases h2 : k = 19
  · subst h2; exact yes 1 _ rfl rfl (by decide)
  by_cases h3 : k = 20
  · subst h3; exact yes 2 _ rfl rfl (by decide)
  by_cases h4 : k = 22
  · subst h4; exact yes 3 _ rfl rfl (by decide)
  by_cases h5 : k = 26
  · subst h5; exact yes 4 _ rfl rfl (by decide)
  by_cases h6 : k = 28
  · subst h6; exact yes 5 _ rfl rfl (by decide)
  by_cases h7 : k = 30
  · subst h7; exact yes 6 _ rfl rfl (by decide)
  exact no h1 h2 h3 h4 h5 h6 h7
end Go.Proofs.YtkmpmphabohkkaaDoor
