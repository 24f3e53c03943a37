/-
  Contracts of the reference implementation's cursor: New, Take, Seek.
-/
import Derived.Test.YtkjfblhaondnnaaAppend
import Derived.Test.YtkjfblhaondnnaaCur
import Derived.RegionTactic
import Derived.BigRegion
import Derived.StillTailTactics
namespace Go.Proofs.Ytkjfblhaondnnaa
open Go.RowKit

theorem ref_new_any {w : World} {a : Option Addr} {n c : Nat} {l : List UInt8} (h : Bs w a n c l) (hn : n ≤ 1000000) :
    Calls Try.prog 10 #[.slice a n c] w fun e w' => ∃ g a', e = .returned (.pointer (some ⟨g, 0, none⟩)) ∧ Cur w' 42 g a' l 0 ∧ w.heap.size ≤ g ∧ (∀ x, a' = some x → w.heap.size ≤ x.block ∧ x.block < g) ∧ Below w.heap.size w w' := by
  obtain ⟨i0, hi, hz0, hz1, hz2⟩ := info_parts info_u8
  have HN := Lib.hid h.len
  have HB := Lib.hid h
  clear h
  go_enter Try.func10, Try.ntmps10
  go_wp2_with (at_builtin; go_must (refine wpList_app _ rfl _ _ 22 rfl w.heap.size 5 i0 Try.underlying22 hi hz0 hz1 hz2 (some ⟨w.heap.size, 0, none⟩) 0 0 [] rfl (own_made w _) a n c l rfl (HB.out.alloc _) ?c1 ?c2 ?_))
  case c1 => omega
  case c2 => simp
  intro a2 c2 w2 ho2 hg2
  have D := app_below (own_made w _) hg2 (Nat.le_refl _) (by simp)
  have Q := Lib.hid ((bal (Below.refl _ w) (Obj.cells #[] 5)).trans D)
  have O2 := Lib.hid ho2
  clear ho2 hg2 D
  go_wp2
  go_ret
  have hl := HN.out
  subst hl
  have ho := O2.out
  refine ⟨_, a2, rfl, ⟨c2, Blk.new _ _ _, ho.bs.alloc _, fun x hx => ?_, Nat.zero_le _, hn⟩, Q.out.size, fun x hx => ho.base x hx, bal Q.out _⟩
  have := (ho.base x hx).2
  omega

theorem ref_seek_ok {w : World} {g : Nat} {a : Option Addr} {l : List UInt8} {pos m : Nat} (h : Cur w 42 g a l pos) (hm : m ≤ l.length) :
    Calls Try.prog 16 #[.pointer (some ⟨g, 0, none⟩), .int .i64 m] w fun e w' => e = .returned (.agg #[.int .i64 0, .int .i64 0]) ∧ Cur w' 42 g a l m ∧ w.grownBy w' (some g) := by
  obtain ⟨c, hb, hs, hne, hp, hz⟩ := h
  have hg := hb.lt
  have hm0 : (0 : Int) ≤ m := by omega
  have h0 := hb.cell 0
  have h1 := hb.cell 1
  have hf1 := hb.frozen 1
  simp only [List.getElem?_toArray, List.getElem?_cons_zero, List.getElem?_cons_succ] at h0 h1
  go_enter Try.func16, Try.ntmps16
  go_wp2
  have hk : w.grownBy ((w.setCell ⟨g, 1, none⟩ (Value.int IntKind.i64 m)).alloc (Obj.cells #[Value.int IntKind.i64 0, Value.int IntKind.i64 0] 33)) (some g) :=
    only_alloc (only_setCell (only_refl _ _) (.inl rfl) _) _
  exact bodyPost_ret (v := .agg #[.int .i64 0, .int .i64 0]) (by simp [results, Try.results16, go_sem]) rfl ⟨rfl, ⟨c, (hb.set_ 1 _).alloc _, hs.only hk hne, hne, hm, hz⟩, hk⟩

theorem ref_seek_bad {w : World} {g : Nat} {a : Option Addr} {l : List UInt8} {pos : Nat} {n : Int} (h : Cur w 42 g a l pos) (hn : n < 0 ∨ (l.length : Int) < n) :
    Calls Try.prog 16 #[.pointer (some ⟨g, 0, none⟩), .int .i64 n] w fun e w' => e = .returned (.agg #[.int .i64 9, .int .i64 pos]) ∧ Below w.heap.size w w' := by
  obtain ⟨c, hb, hs, hne, hp, hz⟩ := h
  have hg := hb.lt
  have h0 := hb.cell 0
  have h1 := hb.cell 1
  simp only [List.getElem?_toArray, List.getElem?_cons_zero, List.getElem?_cons_succ] at h0 h1
  rcases hn with hn | hn
  · go_enter Try.func16, Try.ntmps16
    go_wp2
    exact bodyPost_ret (v := .agg #[.int .i64 9, .int .i64 pos]) (by simp [results, Try.results16, go_sem]) rfl ⟨rfl, (Below.refl _ _).alloc (Nat.le_refl _) _⟩
  · have hn0 : 0 ≤ n := by omega
    go_enter Try.func16, Try.ntmps16
    go_wp2
    exact bodyPost_ret (v := .agg #[.int .i64 9, .int .i64 pos]) (by simp [results, Try.results16, go_sem]) rfl ⟨rfl, (Below.refl _ _).alloc (Nat.le_refl _) _⟩

theorem ref_take_neg {w : World} {g : Nat} {a : Option Addr} {l : List UInt8} {pos : Nat} {n : Int} (h : Cur w 42 g a l pos) (hn : n < 0) :
    Calls Try.prog 12 #[.pointer (some ⟨g, 0, none⟩), .int .i64 n] w fun e w' => e = .returned (.tuple #[.slice none 0 0, .agg #[.int .i64 9, .int .i64 pos]]) ∧ Below w.heap.size w w' := by
  obtain ⟨c, hb, hs, hne, hp, hz⟩ := h
  have hg := hb.lt
  have h1 := hb.cell 1
  simp only [List.getElem?_toArray, List.getElem?_cons_zero, List.getElem?_cons_succ] at h1
  go_enter Try.func12, Try.ntmps12
  go_wp2
  go_region
  go_wp2
  exact bodyPost_ret (v := .tuple #[.slice none 0 0, .agg #[.int .i64 9, .int .i64 pos]]) (by simp [results, Try.results12, go_sem]) rfl ⟨rfl, ((Below.refl _ _).alloc (Nat.le_refl _) _).drew⟩

theorem ref_take_short {w : World} {g : Nat} {a : Option Addr} {l : List UInt8} {pos : Nat} {n : Int} (h : Cur w 42 g a l pos) (hn : (l.length - pos : Nat) < n) :
    Calls Try.prog 12 #[.pointer (some ⟨g, 0, none⟩), .int .i64 n] w fun e w' => e = .returned (.tuple #[.slice none 0 0, .agg #[.int .i64 1, .int .i64 l.length]]) ∧ Below w.heap.size w w' := by
  obtain ⟨c, hb, hs, hne, hp, hz⟩ := h
  have hg := hb.lt
  have hn0 : ¬ n < 0 := by omega
  have hn1 : (l.length : Int) - pos < n := by omega
  have h0 := hb.cell 0
  have h1 := hb.cell 1
  simp only [List.getElem?_toArray, List.getElem?_cons_zero, List.getElem?_cons_succ] at h0 h1
  go_enter Try.func12, Try.ntmps12
  go_wp2
  go_quiet (fail)
  go_wp2
  go_region
  go_wp2
  exact bodyPost_ret (v := .tuple #[.slice none 0 0, .agg #[.int .i64 1, .int .i64 l.length]]) (by simp [results, Try.results12, go_sem]) rfl ⟨rfl, ((below_drewN ((Below.refl _ _).alloc (Nat.le_refl _) _) _).setCell (Nat.le_refl _) _).setCell (Nat.le_refl _) _⟩

end Go.Proofs.Ytkjfblhaondnnaa
