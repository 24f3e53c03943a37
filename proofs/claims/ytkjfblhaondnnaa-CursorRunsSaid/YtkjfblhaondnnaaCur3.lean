/-
  Contracts of the cursor's methods Take, Rest, Seek.
-/
import Derived.Test.YtkjfblhaondnnaaCur2
namespace Go.Proofs.Ytkjfblhaondnnaa
open Go.RowKit

theorem take_neg {w : World} {g : Nat} {a : Option Addr} {l : List UInt8} {pos : Nat} {n : Int} (h : Cur w 55 g a l pos) (hn : n < 0) :
    Calls Try.prog 13 #[.pointer (some ⟨g, 0, none⟩), .int .i64 n] w fun e w' => e = .returned (.tuple #[.slice none 0 0, .agg #[.int .i64 9, .int .i64 pos]]) ∧ Below w.heap.size w w' := by
  have hA : Below w.heap.size w (w.alloc (Obj.cells #[Value.int IntKind.i64 0, Value.int IntKind.i64 0] 33)) := (Below.refl _ w).alloc (Nat.le_refl _) _
  have HS := Lib.hid (fun k => outside_any ((h.below hA).drewN k))
  have hg := h.lt
  clear h
  go_enter Try.func13, Try.ntmps13
  go_wp2_with (first | (go_at_call 27; refine (orEmpty_any _ _).mono ?_; rintro e w' ⟨rfl, rfl⟩) | (go_at_call 29; go_must (refine (HS.out 0).mono ?_); rintro e w1 ⟨rfl, hb1⟩; have hcell := (bcell hb1).1; have hfr := (bcell hb1).2))
  exact bodyPost_ret (v := .tuple #[.slice none 0 0, .agg #[.int .i64 9, .int .i64 pos]]) (by simp [results, Try.results13, go_sem, hcell]) rfl ⟨rfl, ((hA.trans (hb1.mono (by simp))).setCell (Nat.le_refl _) _).setCell (Nat.le_refl _) _⟩

theorem take_short {w : World} {g : Nat} {a : Option Addr} {l : List UInt8} {pos : Nat} {n : Int} (h : Cur w 55 g a l pos) (hn : (l.length - pos : Nat) < n) :
    Calls Try.prog 13 #[.pointer (some ⟨g, 0, none⟩), .int .i64 n] w fun e w' => e = .returned (.tuple #[.slice none 0 0, .agg #[.int .i64 1, .int .i64 l.length]]) ∧ Below w.heap.size w w' := by
  have hA : Below w.heap.size w (w.alloc (Obj.cells #[Value.int IntKind.i64 0, Value.int IntKind.i64 0] 33)) := (Below.refl _ w).alloc (Nat.le_refl _) _
  have HL := Lib.hid (left_any (h.below hA))
  have HS := Lib.hid (fun k => short_any ((h.below hA).drewN k))
  have hg := h.lt
  have hn0 : 0 ≤ n := by omega
  clear h
  go_enter Try.func13, Try.ntmps13
  go_wp2_with (first | (go_at_call 27; refine (orEmpty_any _ _).mono ?_; rintro e w' ⟨rfl, rfl⟩) | (go_at_call 19; go_must (refine HL.out.mono ?_); rintro e w' ⟨rfl, k, rfl⟩) | (go_at_call 28; go_must (refine (HS.out _).mono ?_); rintro e w1 ⟨rfl, hb1⟩; have hcell := (bcell hb1).1; have hfr := (bcell hb1).2))
  exact bodyPost_ret (v := .tuple #[.slice none 0 0, .agg #[.int .i64 1, .int .i64 l.length]]) (by simp [results, Try.results13, go_sem, hcell]) rfl ⟨rfl, (((below_drewN hA k).trans (hb1.mono (by simp))).setCell (Nat.le_refl _) _).setCell (Nat.le_refl _) _⟩

set_option maxHeartbeats 400000 in
theorem take_more_any {w : World} {g : Nat} {a : Option Addr} {l : List UInt8} {pos m : Nat} (h : Cur w 55 g a l pos) (hm : pos + m ≤ l.length) :
    Calls Try.prog 13 #[.pointer (some ⟨g, 0, none⟩), .int .i64 m] w fun e w' => ∃ a' c', e = .returned (.tuple #[.slice a' m c', .agg #[.int .i64 0, .int .i64 0]]) ∧ Own w' w.heap.size 5 a' m c' ((l.drop pos).take m) ∧ Cur w' 55 g a l (pos + m) ∧ w.grownBy w' (some g) := by
  have hA : Below w.heap.size w (w.alloc (Obj.cells #[Value.int IntKind.i64 0, Value.int IntKind.i64 0] 33)) := (Below.refl _ w).alloc (Nat.le_refl _) _
  have hAc := h.below hA
  have HL := Lib.hid (left_any hAc)
  have HD := Lib.hid (fun k => ahead_any (hAc.drewN k) hm)
  obtain ⟨c, hb, hs, hne, hp, hz⟩ := h
  have hg := hb.lt
  have hmz : m ≤ 1000000 := by omega
  have hp0 : (0 : Int) ≤ pos := by omega
  have hm1 : ¬ ((l.length - pos : Nat) : Int) < m := by omega
  have h1 := hb.cell 1
  have hf1 := hb.frozen 1
  simp only [List.getElem?_toArray, List.getElem?_cons_zero, List.getElem?_cons_succ] at h1
  clear hAc
  go_enter Try.func13, Try.ntmps13
  go_wp2_with (first | (go_at_call 27; refine (orEmpty_any _ _).mono ?_; rintro e w' ⟨rfl, rfl⟩) | (go_at_call 19; go_must (refine HL.out.mono ?_); rintro e w' ⟨rfl, k, rfl⟩) | (go_at_call 30; go_must (refine (HD.out _).mono ?_); rintro e w1 ⟨a1, rfl, hb1, k1, rfl⟩; simp only [World.drewN_drewN] at hb1) | (go_at_call 26; go_must (refine (clone_any hb1 hmz).mono ?_); rintro e w2 ⟨a2, c2, rfl, ho, hb2⟩; have hcell := (bcell hb2).1; have hfr := (bcell hb2).2))
  have hB2 : Below w.heap.size w w2 := (below_drewN hA _).trans (hb2.mono (by simp))
  have ho1 : ∀ x, a2 = some x → w.heap.size + 1 ≤ x.block := fun x hx => by have := (ho.base x hx).1; simpa using this
  have hk : w.grownBy (((w2.setCell ⟨g, 1, none⟩ (Value.int IntKind.i64 (pos + m))).setCell ⟨w.heap.size, 0, none⟩ (Value.int IntKind.i64 0)).setCell ⟨w.heap.size, 1, none⟩ (Value.int IntKind.i64 0)) (some g) :=
    only_setCell (only_setCell (only_setCell (only_below hB2 _) (.inl rfl) _) (.inr (Nat.le_refl _)) _) (.inr (Nat.le_refl _)) _
  exact bodyPost_ret (v := .tuple #[.slice a2 m c2, .agg #[.int .i64 0, .int .i64 0]]) (by simp [results, Try.results13, go_sem, hcell]) rfl
    ⟨a2, c2, rfl, ((((ho.more (by simp)).far (fun x hx => by have := ho1 x hx; simp; omega) _).far (fun x hx => by have := ho1 x hx; simp; omega) _).far (fun x hx => by have := ho1 x hx; simp; omega) _),
      ⟨c, ((((hb.below hB2 hg).set_ 1 _).far (by simp; omega) _).far (by simp; omega) _), hs.only hk hne, hne, hm, hz⟩, hk⟩
end Go.Proofs.Ytkjfblhaondnnaa
