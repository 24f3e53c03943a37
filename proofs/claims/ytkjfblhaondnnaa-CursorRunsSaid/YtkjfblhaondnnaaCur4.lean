/-
  Contracts of the cursor's methods Rest and Seek.
-/
import Derived.Test.YtkjfblhaondnnaaCur2
namespace Go.Proofs.Ytkjfblhaondnnaa
open Go.RowKit

theorem rest_any {w : World} {g : Nat} {a : Option Addr} {l : List UInt8} {pos : Nat} (h : Cur w 55 g a l pos) :
    Calls Try.prog 17 #[.pointer (some ⟨g, 0, none⟩)] w fun e w' => ∃ a' c', e = .returned (.slice a' (l.length - pos) c') ∧ Own w' w.heap.size 5 a' (l.length - pos) c' (l.drop pos) ∧ Below w.heap.size w w' := by
  have HL := Lib.hid (left_any h)
  have hle : pos + (l.length - pos) ≤ l.length := by obtain ⟨_, _, _, _, hp, _⟩ := h; omega
  have hmz : l.length - pos ≤ 1000000 := by obtain ⟨_, _, _, _, _, hz⟩ := h; omega
  have HD := Lib.hid (fun k => ahead_any (h.drewN k) hle)
  have e0 : (l.drop pos).take (l.length - pos) = l.drop pos := List.take_of_length_le (by simp)
  rw [e0] at HD
  clear e0 h hle
  generalize l.length - pos = m at *
  generalize l.drop pos = r at *
  go_enter Try.func17, Try.ntmps17
  go_wp2_with (first | (go_at_call 27; refine (orEmpty_any _ _).mono ?_; rintro e w' ⟨rfl, rfl⟩) | (go_at_call 19; go_must (refine HL.out.mono ?_); rintro e w' ⟨rfl, k, rfl⟩) | (go_at_call 30; go_must (refine (HD.out _).mono ?_); rintro e w1 ⟨a1, rfl, hb1, k1, rfl⟩; simp only [World.drewN_drewN] at hb1) | (go_at_call 26; go_must (refine (clone_any hb1 hmz).mono ?_); rintro e w2 ⟨a2, c2, rfl, ho, hb2⟩))
  go_ret
  exact ⟨a2, c2, rfl, ho, (below_drewN (Below.refl _ w) _).trans hb2⟩

theorem seek_ok {w : World} {g : Nat} {a : Option Addr} {l : List UInt8} {pos m : Nat} (h : Cur w 55 g a l pos) (hm : m ≤ l.length) :
    Calls Try.prog 15 #[.pointer (some ⟨g, 0, none⟩), .int .i64 m] w fun e w' => e = .returned (.agg #[.int .i64 0, .int .i64 0]) ∧ Cur w' 55 g a l m ∧ w.grownBy w' (some g) := by
  obtain ⟨c, hb, hs, hne, hp, hz⟩ := h
  have hg := hb.lt
  have hm0 : (0 : Int) ≤ m := by omega
  have h0 := hb.cell 0
  have h1 := hb.cell 1
  have hf1 := hb.frozen 1
  simp only [List.getElem?_toArray, List.getElem?_cons_zero, List.getElem?_cons_succ] at h0 h1
  go_enter Try.func15, Try.ntmps15
  go_wp2_with (go_at_call 27; refine (orEmpty_any _ _).mono ?_; rintro e w' ⟨rfl, rfl⟩)
  have hk : w.grownBy ((w.setCell ⟨g, 1, none⟩ (Value.int IntKind.i64 m)).alloc (Obj.cells #[Value.int IntKind.i64 0, Value.int IntKind.i64 0] 33)) (some g) :=
    only_alloc (only_setCell (only_refl _ _) (.inl rfl) _) _
  exact bodyPost_ret (v := .agg #[.int .i64 0, .int .i64 0]) (by simp [results, Try.results15, go_sem]) rfl ⟨rfl, ⟨c, (hb.set_ 1 _).alloc _, hs.only hk hne, hne, hm, hz⟩, hk⟩

theorem seek_bad {w : World} {g : Nat} {a : Option Addr} {l : List UInt8} {pos : Nat} {n : Int} (h : Cur w 55 g a l pos) (hn : n < 0 ∨ (l.length : Int) < n) :
    Calls Try.prog 15 #[.pointer (some ⟨g, 0, none⟩), .int .i64 n] w fun e w' => e = .returned (.agg #[.int .i64 9, .int .i64 pos]) ∧ Below w.heap.size w w' := by
  have hA : Below w.heap.size w (w.alloc (Obj.cells #[Value.int IntKind.i64 0, Value.int IntKind.i64 0] 33)) := (Below.refl _ w).alloc (Nat.le_refl _) _
  have HS := Lib.hid (fun k => outside_any ((h.below hA).drewN k))
  obtain ⟨c, hb, hs, hne, hp, hz⟩ := h
  have hg := hb.lt
  have h0 := hb.cell 0
  simp only [List.getElem?_toArray, List.getElem?_cons_zero] at h0
  rcases hn with hn | hn
  · go_enter Try.func15, Try.ntmps15
    go_wp2_with (first | (go_at_call 27; refine (orEmpty_any _ _).mono ?_; rintro e w' ⟨rfl, rfl⟩) | (go_at_call 29; go_must (refine (HS.out 0).mono ?_); rintro e w1 ⟨rfl, hb1⟩; have hcell := (bcell hb1).1; have hfr := (bcell hb1).2))
    exact bodyPost_ret (v := .agg #[.int .i64 9, .int .i64 pos]) (by simp [results, Try.results15, go_sem, hcell]) rfl ⟨rfl, ((hA.trans (hb1.mono (by simp))).setCell (Nat.le_refl _) _).setCell (Nat.le_refl _) _⟩
  · have hn0 : 0 ≤ n := by omega
    go_enter Try.func15, Try.ntmps15
    go_wp2_with (first | (go_at_call 27; refine (orEmpty_any _ _).mono ?_; rintro e w' ⟨rfl, rfl⟩) | (go_at_call 29; go_must (refine (HS.out 0).mono ?_); rintro e w1 ⟨rfl, hb1⟩; have hcell := (bcell hb1).1; have hfr := (bcell hb1).2))
    exact bodyPost_ret (v := .agg #[.int .i64 9, .int .i64 pos]) (by simp [results, Try.results15, go_sem, hcell]) rfl ⟨rfl, ((hA.trans (hb1.mono (by simp))).setCell (Nat.le_refl _) _).setCell (Nat.le_refl _) _⟩
end Go.Proofs.Ytkjfblhaondnnaa
