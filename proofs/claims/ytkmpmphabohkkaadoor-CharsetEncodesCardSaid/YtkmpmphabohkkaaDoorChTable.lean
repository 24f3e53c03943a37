/-
  The map that the program makes anew for each call: what it holds, looked up and gone through.
-/
import Derived.Test.YtkmpmphabohkkaaDoorChMath2
import Derived.Test.YtkmpmphabohkkaaDoorBytesEq
import Derived.Maps.RangeRun
import Derived.Carry
namespace Go.Proofs.YtkmpmphabohkkaaDoor
open Go.RowKit
open Go.ChangeMaps (setBlock)

/-- a row of the table: a function, a width -/
def rowV (f : Nat) (n : Int) : Value := .agg #[.func (.func f) #[] #[], .int .i64 n]
def tblE : Array MapEntry := #[{ key := .int .i64 12, val := rowV 41 0, born := 0 }, { key := .int .i64 19, val := rowV 42 1, born := 1 },
  { key := .int .i64 20, val := rowV 43 1, born := 2 }, { key := .int .i64 22, val := rowV 44 1, born := 3 },
  { key := .int .i64 26, val := rowV 45 1, born := 4 }, { key := .int .i64 28, val := rowV 41 4, born := 5 }, { key := .int .i64 30, val := rowV 46 2, born := 6 }]
theorem run_put {P : Program} {T K E : TypeId} (hm : P.underlying T = some (.map K E)) (hk : P.underlying K = some (.int .i64)) (w : World) (es : Array MapEntry) (clock : Nat) (k : Int) (v : Value)
    (hf : Instr.findNow (.int .i64) (.int .i64 k) es.toList 0 = some none) :
    (Instr.mapUpdate T (.map (some w.heap.size)) (.int .i64 k) v).run P (w.alloc (.map es clock)) = .ok () (w.alloc (.map (es.push { key := .int .i64 k, val := v, born := clock }) (clock + 1))) := by
  have hb : (w.alloc (.map es clock)).heap[w.heap.size]? = some (.map es clock) := MapKept.heap_alloc w _ |>.1
  have hc := MapKept.run_checkKey (P := P) (w := w.alloc (.map es clock)) hk (k := .int .i64 k) (by simp [MapKept.IsKey]) false 9999
  have hfk := MapKept.run_findKey (P := P) (w := w.alloc (.map es clock)) hk hf
  have hu := run_underlying (w := w.alloc (.map es clock)) hm
  simp only [Instr.mapUpdate, getObj, setObj, Sem.run_bind, Sem.run, hu, hb, hc, hfk, Result.andThen]
  show Result.ok () { w.alloc (.map es clock) with heap := (w.heap.push (.map es clock)).setIfInBounds w.heap.size _ } = Result.ok () { w with heap := w.heap.push _ }
  have e : ∀ (A : Array Obj) (x y : Obj), (A.push x).setIfInBounds A.size y = A.push y := by
    intro A x y
    apply Array.toList_inj.1
    simp
  rw [e]
  rfl

set_option maxRecDepth 100000 in
theorem table_any (w : World) :
    Calls Tryd.prog 27 #[] w fun e w' => e = .returned (.map (some w.heap.size)) ∧ w' = w.alloc (.map tblE 7) := by
  have hmm := @run_makeMap Tryd.prog
  have r0 : (Instr.mapUpdate 49 (.map (some w.heap.size)) (.int .i64 12) (.agg #[.func (.func 41) #[] #[], .int .i64 0])).run Tryd.prog (w.alloc (.map #[] 0)) = .ok () (w.alloc (.map #[{ key := .int .i64 12, val := .agg #[.func (.func 41) #[] #[], .int .i64 0], born := 0 }] 1)) := run_put Tryd.underlying49 Tryd.underlying3 w _ _ _ _ rfl
  have r1 : (Instr.mapUpdate 49 (.map (some w.heap.size)) (.int .i64 19) (.agg #[.func (.func 42) #[] #[], .int .i64 1])).run Tryd.prog (w.alloc (.map #[{ key := .int .i64 12, val := .agg #[.func (.func 41) #[] #[], .int .i64 0], born := 0 }] 1)) = .ok () (w.alloc (.map #[{ key := .int .i64 12, val := .agg #[.func (.func 41) #[] #[], .int .i64 0], born := 0 }, { key := .int .i64 19, val := .agg #[.func (.func 42) #[] #[], .int .i64 1], born := 1 }] 2)) := run_put Tryd.underlying49 Tryd.underlying3 w _ _ _ _ rfl
  have r2 : (Instr.mapUpdate 49 (.map (some w.heap.size)) (.int .i64 20) (.agg #[.func (.func 43) #[] #[], .int .i64 1])).run Tryd.prog (w.alloc (.map #[{ key := .int .i64 12, val := .agg #[.func (.func 41) #[] #[], .int .i64 0], born := 0 }, { key := .int .i64 19, val := .agg #[.func (.func 42) #[] #[], .int .i64 1], born := 1 }] 2)) = .ok () (w.alloc (.map #[{ key := .int .i64 12, val := .agg #[.func (.func 41) #[] #[], .int .i64 0], born := 0 }, { key := .int .i64 19, val := .agg #[.func (.func 42) #[] #[], .int .i64 1], born := 1 }, { key := .int .i64 20, val := .agg #[.func (.func 43) #[] #[], .int .i64 1], born := 2 }] 3)) := run_put Tryd.underlying49 Tryd.underlying3 w _ _ _ _ rfl
  have r3 : (Instr.mapUpdate 49 (.map (some w.heap.size)) (.int .i64 22) (.agg #[.func (.func 44) #[] #[], .int .i64 1])).run Tryd.prog (w.alloc (.map #[{ key := .int .i64 12, val := .agg #[.func (.func 41) #[] #[], .int .i64 0], born := 0 }, { key := .int .i64 19, val := .agg #[.func (.func 42) #[] #[], .int .i64 1], born := 1 }, { key := .int .i64 20, val := .agg #[.func (.func 43) #[] #[], .int .i64 1], born := 2 }] 3)) = .ok () (w.alloc (.map #[{ key := .int .i64 12, val := .agg #[.func (.func 41) #[] #[], .int .i64 0], born := 0 }, { key := .int .i64 19, val := .agg #[.func (.func 42) #[] #[], .int .i64 1], born := 1 }, { key := .int .i64 20, val := .agg #[.func (.func 43) #[] #[], .int .i64 1], born := 2 }, { key := .int .i64 22, val := .agg #[.func (.func 44) #[] #[], .int .i64 1], born := 3 }] 4)) := run_put Tryd.underlying49 Tryd.underlying3 w _ _ _ _ rfl
  have r4 : (Instr.mapUpdate 49 (.map (some w.heap.size)) (.int .i64 26) (.agg #[.func (.func 45) #[] #[], .int .i64 1])).run Tryd.prog (w.alloc (.map #[{ key := .int .i64 12, val := .agg #[.func (.func 41) #[] #[], .int .i64 0], born := 0 }, { key := .int .i64 19, val := .agg #[.func (.func 42) #[] #[], .int .i64 1], born := 1 }, { key := .int .i64 20, val := .agg #[.func (.func 43) #[] #[], .int .i64 1], born := 2 }, { key := .int .i64 22, val := .agg #[.func (.func 44) #[] #[], .int .i64 1], born := 3 }] 4)) = .ok () (w.alloc (.map #[{ key := .int .i64 12, val := .agg #[.func (.func 41) #[] #[], .int .i64 0], born := 0 }, { key := .int .i64 19, val := .agg #[.func (.func 42) #[] #[], .int .i64 1], born := 1 }, { key := .int .i64 20, val := .agg #[.func (.func 43) #[] #[], .int .i64 1], born := 2 }, { key := .int .i64 22, val := .agg #[.func (.func 44) #[] #[], .int .i64 1], born := 3 }, { key := .int .i64 26, val := .agg #[.func (.func 45) #[] #[], .int .i64 1], born := 4 }] 5)) := run_put Tryd.underlying49 Tryd.underlying3 w _ _ _ _ rfl
  have r5 : (Instr.mapUpdate 49 (.map (some w.heap.size)) (.int .i64 28) (.agg #[.func (.func 41) #[] #[], .int .i64 4])).run Tryd.prog (w.alloc (.map #[{ key := .int .i64 12, val := .agg #[.func (.func 41) #[] #[], .int .i64 0], born := 0 }, { key := .int .i64 19, val := .agg #[.func (.func 42) #[] #[], .int .i64 1], born := 1 }, { key := .int .i64 20, val := .agg #[.func (.func 43) #[] #[], .int .i64 1], born := 2 }, { key := .int .i64 22, val := .agg #[.func (.func 44) #[] #[], .int .i64 1], born := 3 }, { key := .int .i64 26, val := .agg #[.func (.func 45) #[] #[], .int .i64 1], born := 4 }] 5)) = .ok () (w.alloc (.map #[{ key := .int .i64 12, val := .agg #[.func (.func 41) #[] #[], .int .i64 0], born := 0 }, { key := .int .i64 19, val := .agg #[.func (.func 42) #[] #[], .int .i64 1], born := 1 }, { key := .int .i64 20, val := .agg #[.func (.func 43) #[] #[], .int .i64 1], born := 2 }, { key := .int .i64 22, val := .agg #[.func (.func 44) #[] #[], .int .i64 1], born := 3 }, { key := .int .i64 26, val := .agg #[.func (.func 45) #[] #[], .int .i64 1], born := 4 }, { key := .int .i64 28, val := .agg #[.func (.func 41) #[] #[], .int .i64 4], born := 5 }] 6)) := run_put Tryd.underlying49 Tryd.underlying3 w _ _ _ _ rfl
  have r6 : (Instr.mapUpdate 49 (.map (some w.heap.size)) (.int .i64 30) (.agg #[.func (.func 46) #[] #[], .int .i64 2])).run Tryd.prog (w.alloc (.map #[{ key := .int .i64 12, val := .agg #[.func (.func 41) #[] #[], .int .i64 0], born := 0 }, { key := .int .i64 19, val := .agg #[.func (.func 42) #[] #[], .int .i64 1], born := 1 }, { key := .int .i64 20, val := .agg #[.func (.func 43) #[] #[], .int .i64 1], born := 2 }, { key := .int .i64 22, val := .agg #[.func (.func 44) #[] #[], .int .i64 1], born := 3 }, { key := .int .i64 26, val := .agg #[.func (.func 45) #[] #[], .int .i64 1], born := 4 }, { key := .int .i64 28, val := .agg #[.func (.func 41) #[] #[], .int .i64 4], born := 5 }] 6)) = .ok () (w.alloc (.map #[{ key := .int .i64 12, val := .agg #[.func (.func 41) #[] #[], .int .i64 0], born := 0 }, { key := .int .i64 19, val := .agg #[.func (.func 42) #[] #[], .int .i64 1], born := 1 }, { key := .int .i64 20, val := .agg #[.func (.func 43) #[] #[], .int .i64 1], born := 2 }, { key := .int .i64 22, val := .agg #[.func (.func 44) #[] #[], .int .i64 1], born := 3 }, { key := .int .i64 26, val := .agg #[.func (.func 45) #[] #[], .int .i64 1], born := 4 }, { key := .int .i64 28, val := .agg #[.func (.func 41) #[] #[], .int .i64 4], born := 5 }, { key := .int .i64 30, val := .agg #[.func (.func 46) #[] #[], .int .i64 2], born := 6 }] 7)) := run_put Tryd.underlying49 Tryd.underlying3 w _ _ _ _ rfl
  go_enter Tryd.func27, Tryd.ntmps27
  go_wp2
  go_ret
  exact ⟨rfl, rfl⟩
end Go.Proofs.YtkmpmphabohkkaaDoor
