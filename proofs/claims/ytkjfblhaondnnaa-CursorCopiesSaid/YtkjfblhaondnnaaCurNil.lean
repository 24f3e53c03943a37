/-
  Contracts of the cursor's methods at a nil cursor.
-/
import Derived.Test.YtkjfblhaondnnaaCur3
import Derived.Test.YtkjfblhaondnnaaCur4
namespace Go.Proofs.Ytkjfblhaondnnaa
open Go.RowKit

/-- the cursor that stands in for a nil one -/
def emptyCur : Obj := .cells #[.slice none 0 0, .int .i64 0] 55
theorem cur_empty (w : World) : Cur (w.alloc emptyCur) 55 w.heap.size none [] 0 := ⟨0, Blk.new w _ _, Bs.nil_ _, fun _ h => (by cases h), Nat.le_refl _, by simp⟩

theorem orEmpty_nil (w : World) : Calls Try.prog 27 #[.pointer none] w fun e w' => e = .returned (.pointer (some ⟨w.heap.size, 0, none⟩)) ∧ w.alloc emptyCur = w' := by
  go_enter Try.func27, Try.ntmps27
  go_wp2
  go_ret
  exact ⟨rfl, rfl⟩

theorem pos_nil (w : World) : Calls Try.prog 18 #[.pointer none] w fun e w' => e = .returned (.int .i64 0) ∧ Below w.heap.size w w' := by
  have hc := (cur_empty w)
  obtain ⟨c, hb, _⟩ := hc
  have h1 := hb.cell 1
  simp only [List.getElem?_toArray, List.getElem?_cons_zero, List.getElem?_cons_succ] at h1
  clear hb
  go_enter Try.func18, Try.ntmps18
  go_wp2_with (go_at_call 27; go_must (refine (orEmpty_nil _).mono ?_); rintro e w' ⟨rfl, rfl⟩)
  go_ret
  exact ⟨rfl, (Below.refl _ _).alloc (Nat.le_refl _) _⟩

theorem left_nil (w : World) : Calls Try.prog 19 #[.pointer none] w fun e w' => e = .returned (.int .i64 0) ∧ Below w.heap.size w w' := by
  have hc := (cur_empty w)
  obtain ⟨c, hb, hs, _⟩ := hc
  have h0 := hb.cell 0
  have h1 := hb.cell 1
  simp only [List.getElem?_toArray, List.getElem?_cons_zero, List.getElem?_cons_succ, List.length_nil] at h0 h1
  clear hb hs
  go_enter Try.func19, Try.ntmps19
  go_wp2_with (go_at_call 27; go_must (refine (orEmpty_nil _).mono ?_); rintro e w' ⟨rfl, rfl⟩)
  go_quiet (fail)
  go_wp2
  go_ret
  exact ⟨rfl, below_drewN ((Below.refl _ _).alloc (Nat.le_refl _) _) _⟩

theorem rest_nil (w : World) : Calls Try.prog 17 #[.pointer none] w fun e w' => ∃ a' c', e = .returned (.slice a' 0 c') ∧ Below w.heap.size w w' := by
  have hA : Below w.heap.size w (w.alloc emptyCur) := (Below.refl _ _).alloc (Nat.le_refl _) _
  have hc := cur_empty w
  have HL := Lib.hid (left_any hc)
  have HD := Lib.hid (fun k => ahead_any (m := 0) (hc.drewN k) (by simp))
  clear hc
  go_enter Try.func17, Try.ntmps17
  go_wp2_with (first | (go_at_call 27; go_must (refine (orEmpty_nil _).mono ?_); rintro e w' ⟨rfl, rfl⟩) | (go_at_call 19; go_must (refine HL.out.mono ?_); rintro e w' ⟨rfl, k, rfl⟩) | (go_at_call 30; go_must (refine (HD.out _).mono ?_); rintro e w1 ⟨a1, rfl, hb1, k1, rfl⟩; simp only [World.drewN_drewN] at hb1) | (go_at_call 26; go_must (refine (clone_any hb1 (by omega)).mono ?_); rintro e w2 ⟨a2, c2, rfl, ho, hb2⟩))
  go_ret
  exact ⟨a2, c2, rfl, bthen (below_drewN hA _) hb2⟩

theorem byte_nil (w : World) : Calls Try.prog 11 #[.pointer none] w fun e w' => e = .returned (.tuple #[.int .u8 0, .agg #[.int .i64 1, .int .i64 0]]) ∧ Below w.heap.size w w' := by
  have hA : Below w.heap.size w ((w.alloc (Obj.cells #[Value.int IntKind.i64 0, Value.int IntKind.i64 0] 33)).alloc emptyCur) := bal (bal (Below.refl _ w) _) _
  have hc := cur_empty (w.alloc (Obj.cells #[Value.int IntKind.i64 0, Value.int IntKind.i64 0] 33))
  simp only [World.size_alloc] at hc
  have HL := Lib.hid (left_any hc)
  have HS := Lib.hid (fun k => short_any (hc.drewN k))
  clear hc
  go_enter Try.func11, Try.ntmps11
  go_wp2_with (first | (go_at_call 27; go_must (refine (orEmpty_nil _).mono ?_); rintro e w' ⟨rfl, rfl⟩) | (go_at_call 19; go_must (refine HL.out.mono ?_); rintro e w' ⟨rfl, k, rfl⟩) | (go_at_call 28; go_must (refine (HS.out _).mono ?_); rintro e w1 ⟨rfl, hb1⟩; have c0 : w1.cell? ⟨w.heap.size, 0, none⟩ = some (.int .i64 0) := ((bcell hb1).1 _ _ (by simp; omega)).trans (by go_simp); have c1 : w1.cell? ⟨w.heap.size, 1, none⟩ = some (.int .i64 0) := ((bcell hb1).1 _ _ (by simp; omega)).trans (by go_simp); have f0 : w1.frozen? ⟨w.heap.size, 0, none⟩ = false := ((bcell hb1).2 _ _ (by simp; omega)).trans (by go_simp); have f1 : w1.frozen? ⟨w.heap.size, 1, none⟩ = false := ((bcell hb1).2 _ _ (by simp; omega)).trans (by go_simp)))
  exact bodyPost_ret (v := .tuple #[.int .u8 0, .agg #[.int .i64 1, .int .i64 0]]) (by simp [results, Try.results11, go_sem, c0, c1]) rfl ⟨rfl, (((below_drewN hA k).trans (hb1.mono (by simp; omega))).setCell (Nat.le_refl _) _).setCell (Nat.le_refl _) _⟩

theorem take_nil (w : World) : Calls Try.prog 13 #[.pointer none, .int .i64 (-1)] w fun e w' => e = .returned (.tuple #[.slice none 0 0, .agg #[.int .i64 9, .int .i64 0]]) ∧ Below w.heap.size w w' := by
  have hA : Below w.heap.size w ((w.alloc (Obj.cells #[Value.int IntKind.i64 0, Value.int IntKind.i64 0] 33)).alloc emptyCur) := bal (bal (Below.refl _ w) _) _
  have hc := cur_empty (w.alloc (Obj.cells #[Value.int IntKind.i64 0, Value.int IntKind.i64 0] 33))
  simp only [World.size_alloc] at hc
  have HS := Lib.hid (fun k => outside_any (hc.drewN k))
  clear hc
  go_enter Try.func13, Try.ntmps13
  go_wp2_with (first | (go_at_call 27; go_must (refine (orEmpty_nil _).mono ?_); rintro e w' ⟨rfl, rfl⟩) | (go_at_call 29; go_must (refine (HS.out 0).mono ?_); rintro e w1 ⟨rfl, hb1⟩; have c0 : w1.cell? ⟨w.heap.size, 0, none⟩ = some (.int .i64 0) := ((bcell hb1).1 _ _ (by simp; omega)).trans (by go_simp); have c1 : w1.cell? ⟨w.heap.size, 1, none⟩ = some (.int .i64 0) := ((bcell hb1).1 _ _ (by simp; omega)).trans (by go_simp); have f0 : w1.frozen? ⟨w.heap.size, 0, none⟩ = false := ((bcell hb1).2 _ _ (by simp; omega)).trans (by go_simp); have f1 : w1.frozen? ⟨w.heap.size, 1, none⟩ = false := ((bcell hb1).2 _ _ (by simp; omega)).trans (by go_simp)))
  exact bodyPost_ret (v := .tuple #[.slice none 0 0, .agg #[.int .i64 9, .int .i64 0]]) (by simp [results, Try.results13, go_sem, c0, c1]) rfl ⟨rfl, ((hA.trans (hb1.mono (by simp; omega))).setCell (Nat.le_refl _) _).setCell (Nat.le_refl _) _⟩

theorem seek_nil0 (w : World) : Calls Try.prog 15 #[.pointer none, .int .i64 0] w fun e w' => e = .returned (.agg #[.int .i64 0, .int .i64 0]) ∧ Below w.heap.size w w' := by
  have hA : Below w.heap.size w ((w.alloc (Obj.cells #[Value.int IntKind.i64 0, Value.int IntKind.i64 0] 33)).alloc emptyCur) := bal (bal (Below.refl _ w) _) _
  have hc := cur_empty (w.alloc (Obj.cells #[Value.int IntKind.i64 0, Value.int IntKind.i64 0] 33))
  simp only [World.size_alloc] at hc
  obtain ⟨c, hb, hs, _⟩ := hc
  have h0 := hb.cell 0
  have h1 := hb.cell 1
  have hf := hb.frozen 1
  simp only [List.getElem?_toArray, List.getElem?_cons_zero, List.getElem?_cons_succ, List.length_nil] at h0 h1
  clear hb hs
  go_enter Try.func15, Try.ntmps15
  go_wp2_with (go_at_call 27; go_must (refine (orEmpty_nil _).mono ?_); rintro e w' ⟨rfl, rfl⟩)
  exact bodyPost_ret (v := .agg #[.int .i64 0, .int .i64 0]) (by simp [results, Try.results15, go_sem]) rfl ⟨rfl, ((hA.setCell (by simp) _).setCell (Nat.le_refl _) _).setCell (Nat.le_refl _) _⟩
theorem seek_nil1 (w : World) : Calls Try.prog 15 #[.pointer none, .int .i64 1] w fun e w' => e = .returned (.agg #[.int .i64 9, .int .i64 0]) ∧ Below w.heap.size w w' := by
  have hA : Below w.heap.size w ((w.alloc (Obj.cells #[Value.int IntKind.i64 0, Value.int IntKind.i64 0] 33)).alloc emptyCur) := bal (bal (Below.refl _ w) _) _
  have hc := cur_empty (w.alloc (Obj.cells #[Value.int IntKind.i64 0, Value.int IntKind.i64 0] 33))
  simp only [World.size_alloc] at hc
  have HS := Lib.hid (fun k => outside_any (hc.drewN k))
  obtain ⟨c, hb, hs, _⟩ := hc
  have h0 := hb.cell 0
  simp only [List.getElem?_toArray, List.getElem?_cons_zero, List.length_nil] at h0
  clear hb hs
  go_enter Try.func15, Try.ntmps15
  go_wp2_with (first | (go_at_call 27; go_must (refine (orEmpty_nil _).mono ?_); rintro e w' ⟨rfl, rfl⟩) | (go_at_call 29; go_must (refine (HS.out 0).mono ?_); rintro e w1 ⟨rfl, hb1⟩; have c0 : w1.cell? ⟨w.heap.size, 0, none⟩ = some (.int .i64 0) := ((bcell hb1).1 _ _ (by simp; omega)).trans (by go_simp); have c1 : w1.cell? ⟨w.heap.size, 1, none⟩ = some (.int .i64 0) := ((bcell hb1).1 _ _ (by simp; omega)).trans (by go_simp); have f0 : w1.frozen? ⟨w.heap.size, 0, none⟩ = false := ((bcell hb1).2 _ _ (by simp; omega)).trans (by go_simp); have f1 : w1.frozen? ⟨w.heap.size, 1, none⟩ = false := ((bcell hb1).2 _ _ (by simp; omega)).trans (by go_simp)))
  exact bodyPost_ret (v := .agg #[.int .i64 9, .int .i64 0]) (by simp [results, Try.results15, go_sem, c0, c1]) rfl ⟨rfl, ((hA.trans (hb1.mono (by simp; omega))).setCell (Nat.le_refl _) _).setCell (Nat.le_refl _) _⟩
end Go.Proofs.Ytkjfblhaondnnaa
