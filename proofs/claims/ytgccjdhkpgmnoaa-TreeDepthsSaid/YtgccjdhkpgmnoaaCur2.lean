/-
  Contracts of the cursor's methods that move: New, Byte, Take, Rest, Seek.
-/
import Derived.Test.YtgccjdhkpgmnoaaCur
import Derived.StillTailTactics
namespace Go.Proofs.Ytgccjdhkpgmnoaa
open Go.RowKit

theorem new_any {w : World} {a : Option Addr} {n c : Nat} {l : List UInt8} (h : Bs w a n c l) (hn : n ≤ 1000000) :
    Calls Try.prog 52 #[.slice a n c] w fun e w' => ∃ g a', e = .returned (.pointer (some ⟨g, 0, none⟩)) ∧ Cur w' 90 g a' l 0 ∧ w.heap.size ≤ g ∧ (∀ x, a' = some x → w.heap.size ≤ x.block ∧ x.block < g) ∧ Below w.heap.size w w' := by
  have HN := Lib.hid h.len
  go_enter Try.func52, Try.ntmps52
  go_wp2_with (go_at_call 39; go_must (refine (clone_any h hn).mono ?_); rintro e w' ⟨a', c', rfl, ho, hb⟩)
  go_ret
  have hl := HN.out
  subst hl
  refine ⟨_, a', rfl, ⟨c', Blk.new _ _ _, ho.bs.alloc _, fun x hx => ?_, Nat.zero_le _, hn⟩, hb.size, fun x hx => ho.base x hx, hb.alloc hb.size _⟩
  have := (ho.base x hx).2
  omega

theorem byte_more {w : World} {g : Nat} {a : Option Addr} {l : List UInt8} {pos : Nat} (h : Cur w 90 g a l pos) (hlt : pos < l.length) :
    Calls Try.prog 53 #[.pointer (some ⟨g, 0, none⟩)] w fun e w' => e = .returned (.tuple #[.int .u8 l[pos].toNat, .agg #[.int .i64 0, .int .i64 0]]) ∧ Cur w' 90 g a l (pos + 1) ∧ w.grownBy w' (some g) := by
  have hl := left_any (h.below ((Below.refl _ w).alloc (Nat.le_refl _) (Obj.cells #[Value.int IntKind.i64 0, Value.int IntKind.i64 0] 29)))
  obtain ⟨c, hb, hs, hne, hp, hz⟩ := h
  obtain ⟨b, off, hl1, rfl, hbl, hc⟩ := hs.at_ hlt
  have hlc := hs.2.1
  have hcm := hs.2.2.1
  have hg := hb.lt
  unfold maxLen at hcm
  have h0 := hb.cell 0
  have h1 := hb.cell 1
  have hf1 := hb.frozen 1
  simp only [List.getElem?_toArray, List.getElem?_cons_zero, List.getElem?_cons_succ] at h0 h1
  have hp0 : (0 : Int) ≤ pos := by omega
  have hp1 : (pos : Int) < l.length := by omega
  generalize hx : l[pos] = x at hc ⊢
  have HX := Lib.hid hx
  clear hx
  have HL := Lib.hid hl
  clear hl
  go_enter Try.func53, Try.ntmps53
  go_wp2_with (first | (go_at_call 58; refine (orEmpty_any _ _).mono ?_; rintro e w' ⟨rfl, rfl⟩) | (go_at_call 59; go_must (refine HL.out.mono ?_); rintro e w' ⟨rfl, k, rfl⟩))
  go_quiet (fail)
  go_wp2
  have hk : w.grownBy (((((w.alloc (Obj.cells #[Value.int IntKind.i64 0, Value.int IntKind.i64 0] 29)).drewN (k + nq)).setCell ⟨g, 1, none⟩ (Value.int IntKind.i64 (pos + 1))).setCell ⟨w.heap.size, 0, none⟩ (Value.int IntKind.i64 0)).setCell ⟨w.heap.size, 1, none⟩ (Value.int IntKind.i64 0)) (some g) :=
    only_setCell (only_setCell (only_setCell (only_drewN (only_alloc (only_refl _ _) _) _) (.inl rfl) _) (.inr (Nat.le_refl _)) _) (.inr (Nat.le_refl _)) _
  exact bodyPost_ret (v := .tuple #[.int .u8 x.toNat, .agg #[.int .i64 0, .int .i64 0]]) (by simp [results, Try.results53, go_sem]) rfl ⟨rfl, ⟨c, ((((hb.alloc _).drewN _).set_ 1 _).far (by simp; omega) _).far (by simp; omega) _, hs.only hk hne, hne, hlt, hz⟩, hk⟩

theorem byte_end {w : World} {g : Nat} {a : Option Addr} {l : List UInt8} {pos : Nat} (h : Cur w 90 g a l pos) (hlt : ¬ pos < l.length) :
    Calls Try.prog 53 #[.pointer (some ⟨g, 0, none⟩)] w fun e w' => e = .returned (.tuple #[.int .u8 0, .agg #[.int .i64 1, .int .i64 l.length]]) ∧ Below w.heap.size w w' := by
  have hA : Below w.heap.size w (w.alloc (Obj.cells #[Value.int IntKind.i64 0, Value.int IntKind.i64 0] 29)) := (Below.refl _ w).alloc (Nat.le_refl _) _
  have HL := Lib.hid (left_any (h.below hA))
  have HS := Lib.hid (fun k => short_any ((h.below hA).drewN k))
  have hg := h.lt
  have hz : l.length - pos = 0 := by omega
  rw [hz] at HL
  clear hz h
  go_enter Try.func53, Try.ntmps53
  go_wp2_with (first | (go_at_call 58; refine (orEmpty_any _ _).mono ?_; rintro e w' ⟨rfl, rfl⟩) | (go_at_call 59; go_must (refine HL.out.mono ?_); rintro e w' ⟨rfl, k, rfl⟩) | (go_at_call 60; go_must (refine (HS.out _).mono ?_); rintro e w1 ⟨rfl, hb1⟩; have hcell := (bcell hb1).1; have hfr := (bcell hb1).2))
  exact bodyPost_ret (v := .tuple #[.int .u8 0, .agg #[.int .i64 1, .int .i64 l.length]]) (by simp [results, Try.results53, go_sem, hcell]) rfl ⟨rfl, (((below_drewN hA k).trans (hb1.mono (by simp))).setCell (Nat.le_refl _) _).setCell (Nat.le_refl _) _⟩
end Go.Proofs.Ytgccjdhkpgmnoaa
