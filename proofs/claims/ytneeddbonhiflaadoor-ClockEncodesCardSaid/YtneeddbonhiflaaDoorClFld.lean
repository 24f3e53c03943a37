/-
  Contract of the reference's fields.
-/
import Derived.Test.YtneeddbonhiflaaDoorClNum
namespace Go.Proofs.YtneeddbonhiflaaDoor
open Go.RowKit

/-- the point in time in the digits behind a year -/
def fldO (y : Int) (l : List UInt8) (p : Nat) : Tm := ⟨y, numO ((l.drop p).take 2), numO ((l.drop (p + 2)).take 2), numO ((l.drop (p + 4)).take 2), numO ((l.drop (p + 6)).take 2), numO ((l.drop (p + 8)).take 2)⟩
/-- what the results' cells hold once they are stored -/
theorem Blk.six {w : World} {g : Nat} {t : TypeId} {a b c d e f : Value} (h : Blk w g t #[a, b, c, d, e, f]) (a' b' c' d' e' f' : Value) :
    Blk ((((((w.setCell ⟨g, 0, none⟩ a').setCell ⟨g, 1, none⟩ b').setCell ⟨g, 2, none⟩ c').setCell ⟨g, 3, none⟩ d').setCell ⟨g, 4, none⟩ e').setCell ⟨g, 5, none⟩ f') g t #[a', b', c', d', e', f'] := by
  simpa using (((((h.set_ 0 a').set_ 1 b').set_ 2 c').set_ 3 d').set_ 4 e').set_ 5 f'
theorem below_six {B g : Nat} {u w : World} (q : Below B u w) (h : B ≤ g) (a b c d e f : Value) :
    Below B u ((((((w.setCell ⟨g, 0, none⟩ a).setCell ⟨g, 1, none⟩ b).setCell ⟨g, 2, none⟩ c).setCell ⟨g, 3, none⟩ d).setCell ⟨g, 4, none⟩ e).setCell ⟨g, 5, none⟩ f) :=
  (((((q.setCell h _).setCell h _).setCell h _).setCell h _).setCell h _).setCell h _

set_option maxRecDepth 100000 in
set_option maxHeartbeats 4000000 in
theorem fields_any {w : World} {a : Option Addr} {n c : Nat} {l : List UInt8} (hx : Bs w a n c l) (y : Int) (p : Nat) (hp : p ≤ 12) :
    Calls Tryd.prog 34 #[.int .i64 y, .slice a n c, .int .i64 p] w fun e w' => e = .returned (tmV (fldO y l p)) ∧ Below w.heap.size w w' := by
  obtain ⟨H, hH⟩ : ∃ H, w.heap.size = H := ⟨_, rfl⟩
  have hN := fun (v : World) (h : Bs v a n c l) (j : Nat) (hj : j ≤ 8) => number_any h (p + j) 2 (by omega) (by omega)
  have N0 : Hid (∀ v, Bs v a n c l → Calls Tryd.prog 33 #[.slice a n c, .int .i64 p, .int .i64 2] v fun e w' => e = .returned (.int .i64 (numO ((l.drop p).take 2))) ∧ w' = v) := Lib.hid fun v h => hN v h 0 (by omega)
  have N2 : Hid (∀ v, Bs v a n c l → Calls Tryd.prog 33 #[.slice a n c, .int .i64 ((p : Int) + 2), .int .i64 2] v fun e w' => e = .returned (.int .i64 (numO ((l.drop (p + 2)).take 2))) ∧ w' = v) := Lib.hid fun v h => hN v h 2 (by omega)
  have N4 : Hid (∀ v, Bs v a n c l → Calls Tryd.prog 33 #[.slice a n c, .int .i64 ((p : Int) + 4), .int .i64 2] v fun e w' => e = .returned (.int .i64 (numO ((l.drop (p + 4)).take 2))) ∧ w' = v) := Lib.hid fun v h => hN v h 4 (by omega)
  have N6 : Hid (∀ v, Bs v a n c l → Calls Tryd.prog 33 #[.slice a n c, .int .i64 ((p : Int) + 6), .int .i64 2] v fun e w' => e = .returned (.int .i64 (numO ((l.drop (p + 6)).take 2))) ∧ w' = v) := Lib.hid fun v h => hN v h 6 (by omega)
  have N8 : Hid (∀ v, Bs v a n c l → Calls Tryd.prog 33 #[.slice a n c, .int .i64 ((p : Int) + 8), .int .i64 2] v fun e w' => e = .returned (.int .i64 (numO ((l.drop (p + 8)).take 2))) ∧ w' = v) := Lib.hid fun v h => hN v h 8 (by omega)
  clear hN
  have s2 : IntKind.i64.wrap ((p : Int) + 2) = (p : Int) + 2 := wr_num (by omega)
  have s4 : IntKind.i64.wrap ((p : Int) + 4) = (p : Int) + 4 := wr_num (by omega)
  have s6 : IntKind.i64.wrap ((p : Int) + 6) = (p : Int) + 6 := wr_num (by omega)
  have s8 : IntKind.i64.wrap ((p : Int) + 8) = (p : Int) + 8 := wr_num (by omega)
  unfold fldO tmV
  dsimp only
  generalize numO ((l.drop p).take 2) = V0 at *
  generalize numO ((l.drop (p + 2)).take 2) = V2 at *
  generalize numO ((l.drop (p + 4)).take 2) = V4 at *
  generalize numO ((l.drop (p + 6)).take 2) = V6 at *
  generalize numO ((l.drop (p + 8)).take 2) = V8 at *
  have X0 := Lib.hid hx
  clear hx
  go_enter Tryd.func34, Tryd.ntmps34
  go_wp2_with fail
  have Q1 : Hid (Below H w (w.alloc (.cells #[.int .i64 0, .int .i64 0, .int .i64 0, .int .i64 0, .int .i64 0, .int .i64 0] 23))) := by rw [← hH]; exact bal (Below.refl _ _) _
  have Z1 : Hid (Blk (w.alloc (.cells #[.int .i64 0, .int .i64 0, .int .i64 0, .int .i64 0, .int .i64 0, .int .i64 0] 23)) H 23 #[.int .i64 0, .int .i64 0, .int .i64 0, .int .i64 0, .int .i64 0, .int .i64 0]) := by rw [← hH]; exact Blk.new _ _ _
  have X1 := Lib.hid (X0.out.alloc (.cells #[.int .i64 0, .int .i64 0, .int .i64 0, .int .i64 0, .int .i64 0, .int .i64 0] 23))
  generalize w.alloc (.cells #[.int .i64 0, .int .i64 0, .int .i64 0, .int .i64 0, .int .i64 0, .int .i64 0] 23) = w1 at *
  with_reducible refine (N0.out _ X1.out).mono ?_
  rintro e w1 ⟨rfl, rfl⟩
  go_wp2_with fail
  with_reducible refine (N2.out _ X1.out).mono ?_
  rintro e w1 ⟨rfl, rfl⟩
  go_wp2_with fail
  with_reducible refine (N4.out _ X1.out).mono ?_
  rintro e w1 ⟨rfl, rfl⟩
  go_wp2_with fail
  with_reducible refine (N6.out _ X1.out).mono ?_
  rintro e w1 ⟨rfl, rfl⟩
  go_wp2_with fail
  with_reducible refine (N8.out _ X1.out).mono ?_
  rintro e w1 ⟨rfl, rfl⟩
  obtain ⟨z0, z1, z2, z3, z4, z5⟩ := Z1.out.cells6
  have zl := Z1.out.lt
  have zf := Z1.out.frozen
  have ZF := Lib.hid (Z1.out.six (.int .i64 y) (.int .i64 V0) (.int .i64 V2) (.int .i64 V4) (.int .i64 V6) (.int .i64 V8))
  have QF := Lib.hid (below_six Q1.out (Nat.le_refl H) (.int .i64 y) (.int .i64 V0) (.int .i64 V2) (.int .i64 V4) (.int .i64 V6) (.int .i64 V8))
  go_wp2_with fail
  obtain ⟨y0, y1, y2, y3, y4, y5⟩ := ZF.out.cells6
  have q := QF.out
  generalize (((((w1.setCell ⟨H, 0, none⟩ (.int .i64 y)).setCell ⟨H, 1, none⟩ (.int .i64 V0)).setCell ⟨H, 2, none⟩ (.int .i64 V2)).setCell ⟨H, 3, none⟩ (.int .i64 V4)).setCell ⟨H, 4, none⟩ (.int .i64 V6)).setCell ⟨H, 5, none⟩ (.int .i64 V8) = w4 at *
  exact bodyPost_ret (v := .agg #[.int .i64 y, .int .i64 V0, .int .i64 V2, .int .i64 V4, .int .i64 V6, .int .i64 V8]) (by simp [results, Tryd.results34, go_sem, y0, y1, y2, y3, y4, y5]) rfl ⟨rfl, by rw [hH]; exact q⟩
end Go.Proofs.YtneeddbonhiflaaDoor
