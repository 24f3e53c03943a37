/-
  A strings.Builder of the call's own, written octet by octet.
-/
import Derived.Test.YtkmpmphabohkkaaDoorAppend
import Derived.Test.YtkmpmphabohkkaaDoorLit
import Derived.Test.YtkmpmphabohkkaaDoorInfoU8
import Derived.Test.YtkmpmphabohkkaaDoorBytesEq
import Derived.Lib.OthersKept
import Derived.Lib.Builder
import Derived.Laws.Externs
namespace Go.Proofs.YtkmpmphabohkkaaDoor
open Go.RowKit

/-- block B is a builder that holds l; p: what its first cell holds -/
def BldAt (w : World) (n B : Nat) (p : Value) (l : List UInt8) : Prop :=
  n ≤ B ∧ ∃ a c, Blk w B 63 #[p, .slice a l.length c] ∧ Own w n 5 a l.length c l
def Bld (w : World) (n B : Nat) (l : List UInt8) : Prop := BldAt w n B (.pointer none) l ∨ BldAt w n B (.pointer (some ⟨B, 0, none⟩)) l
/-- what such a call leaves alone -/
abbrev KeptU (B : Nat) (w w' : World) : Prop := Lib.OthersKept 5 (some B) w w'

theorem own_block {w : World} {n : Nat} {a : Option Addr} {m c : Nat} {l : List UInt8} (h : Own w n 5 a m c l) : ∀ g, (Value.slice a m c).ownBlock = some g → ∃ cs fz, w.heap[g]? = some (.cells cs 5 fz) := by
  intro g hg
  rcases h.2 with ⟨h1, _⟩ | ⟨g', cap, cur, h1, _, h3, _⟩
  · injection h1 with h1
    subst h1
    cases hg
  · injection h1 with h1
    subst h1
    injection hg with hg
    subst hg
    exact ⟨_, _, h3⟩
theorem bld_ne {w : World} {n B : Nat} {a : Option Addr} {m c : Nat} {l : List UInt8} {cs : Array Value} (hb : Blk w B 63 cs) (h : Own w n 5 a m c l) : (Value.slice a m c).ownBlock ≠ some B := by
  intro e
  obtain ⟨cs', fz, h1⟩ := own_block h B e
  unfold Blk at hb
  rw [hb] at h1
  injection h1 with h1
  injection h1 with _ h2
  cases h2
theorem bld_far {w : World} {n B : Nat} {a : Option Addr} {m c : Nat} {l : List UInt8} {cs : Array Value} (hb : Blk w B 63 cs) (h : Own w n 5 a m c l) (u : Value) (i : Nat) : Own (w.setCell ⟨B, i, none⟩ u) n 5 a m c l :=
  h.far (fun x hx => by
    subst hx
    intro e
    exact bld_ne hb h (by show some x.block = some B; rw [e])) u
theorem Bld.alloc {w : World} {n B : Nat} {l : List UInt8} (h : Bld w n B l) (o : Obj) : Bld (w.alloc o) n B l := by
  rcases h with ⟨h1, a, c, h2, h3⟩ | ⟨h1, a, c, h2, h3⟩
  · exact .inl ⟨h1, a, c, h2.alloc o, World.ownsRow.alloc h3 o⟩
  · exact .inr ⟨h1, a, c, h2.alloc o, World.ownsRow.alloc h3 o⟩
theorem Bld.lt {w : World} {n B : Nat} {l : List UInt8} (h : Bld w n B l) : n ≤ B ∧ B < w.heap.size := by
  rcases h with ⟨h1, a, c, h2, h3⟩ | ⟨h1, a, c, h2, h3⟩ <;> exact ⟨h1, h2.lt⟩
theorem bld_new (w : World) (n : Nat) (hn : n ≤ w.heap.size) : Bld (w.alloc (.cells #[.pointer none, .slice none 0 0] 63)) n w.heap.size [] :=
  .inl ⟨hn, none, 0, Blk.new _ _ _, ⟨rfl, .inl ⟨rfl, rfl⟩⟩⟩
theorem Bld.is {w : World} {n B : Nat} {l : List UInt8} (h : Bld w n B l) : Lib.IsBuilder 63 5 n B (Lib.byteCells l) w := by
  rcases h with ⟨h1, a, c, h2, h3⟩ | ⟨h1, a, c, h2, h3⟩
  · exact .inl ⟨h1, _, h2, by rw [Lib.byteCells_length]; exact h3, bld_ne h2 h3⟩
  · exact .inr ⟨h1, _, h2, by rw [Lib.byteCells_length]; exact h3, bld_ne h2 h3⟩

theorem size_bld : (Tryd.prog.info? 63).map (·.size) = some 2 := by kernel_rfl
theorem lies_bld : liesAt Tryd.prog Tryd.prog.depth 63 (2 / Tryd.prog.cellsOf 63) 0 63 1 = true := by kernel_rfl

set_option maxRecDepth 100000 in
theorem ccheck_any {w : World} {n B : Nat} {l : List UInt8} (h : Bld w n B l) :
    Calls Tryd.prog 58 #[.pointer (some ⟨B, 0, none⟩)] w fun e w' => e = .returned (.tuple #[]) ∧ BldAt w' n B (.pointer (some ⟨B, 0, none⟩)) l ∧ Below n w w' ∧ KeptU B w w' := by
  obtain ⟨j, hj, hjs⟩ := Option.map_eq_some_iff.1 size_bld
  rcases h with ⟨h1, a, c, h2, h3⟩ | ⟨h1, a, c, h2, h3⟩
  · have c0 : w.cell? ⟨B, 0, none⟩ = some (.pointer none) := by rw [h2.cell]; rfl
    have fz : w.frozen? ⟨B, 0, none⟩ = false := h2.frozen 0
    have sh : w.shape? B = some (63, 2) := by unfold World.shape?; unfold Blk at h2; rw [h2]; rfl
    go_enter Tryd.func58, Tryd.ntmps58
    go_wp2
    rw [Lib.run_to_unsafe w ⟨B, 0, none⟩ Tryd.underlying61 Tryd.underlying98 hj (by rw [hjs]; decide) sh (Nat.zero_lt_succ 1)]
    simp only [Result.andThen]
    rw [Oper.upon_value]
    go_wp2
    rw [run_callFunc_extern Tryd.func68 (by kernel_rfl) (by kernel_rfl) (by kernel_rfl) (e := Extern.AbiNoEscape.same) (by kernel_rfl)]
    rw [Lib.run_noEscape]
    simp only [Result.andThen]
    rw [Oper.upon_value]
    go_wp2
    rw [Lib.run_from_unsafe w ⟨B, 0, none⟩ Tryd.underlying98 Tryd.underlying61 hj sh lies_bld]
    simp only [Result.andThen]
    rw [Oper.upon_value]
    go_wp2
    go_end0
    exact ⟨rfl, ⟨h1, a, c, h2.set_ 0 _, bld_far h2 h3 _ 0⟩, (Below.refl n w).setCell (p := ⟨B, 0, none⟩) h1 _, (Lib.OthersKept.refl _ _ w).setCell ⟨B, 0, none⟩ rfl _⟩
  · have c0 : w.cell? ⟨B, 0, none⟩ = some (.pointer (some ⟨B, 0, none⟩)) := by rw [h2.cell]; rfl
    go_enter Tryd.func58, Tryd.ntmps58
    go_wp2
    rw [Lib.run_neq_ptr_same w _ Tryd.underlying61 hj]
    go_wp2
    go_end0
    exact ⟨rfl, ⟨h1, a, c, h2, h3⟩, Below.refl _ _, Lib.OthersKept.refl _ _ _⟩

set_option maxRecDepth 100000 in
theorem wbyte_any {w : World} {n B : Nat} {l : List UInt8} (h : Bld w n B l) (x : UInt8) (hz : l.length ≤ 1000000) (hn : n ≤ w.heap.size) :
    Calls Tryd.prog 37 #[.pointer (some ⟨B, 0, none⟩), .int .u8 x.toNat] w fun e w' => e = .returned .nilIface ∧ Bld w' n B (l ++ [x]) ∧ Below n w w' ∧ KeptU B w w' := by
  obtain ⟨i0, hi, hz0, hz1, hz2⟩ := info_parts info_u8
  have H := Lib.hid (ccheck_any h)
  have hx := x.toNat_lt
  go_enter Tryd.func37, Tryd.ntmps37
  go_wp2_with fail
  with_reducible refine H.out.mono ?_
  rintro e w1 ⟨rfl, ⟨h1, a, c, hb, ho⟩, hq, hk⟩
  have hn1 : n ≤ w1.heap.size := Nat.le_trans hn hq.size
  have hlt := hb.lt
  have c0 : w1.cell? ⟨B, 0, none⟩ = some (.pointer (some ⟨B, 0, none⟩)) := by rw [hb.cell]; rfl
  have c1 : w1.cell? ⟨B, 1, none⟩ = some (.slice a l.length c) := by rw [hb.cell]; rfl
  have OX := Lib.hid (World.ownsRow.alloc ho (.cells #[.int .u8 x.toNat] 5))
  have SX := Lib.hid (bs_lit w1 5 #[.int .u8 x.toNat] [x] 1 rfl rfl (by decide))
  have HSZ : n ≤ (w1.alloc (.cells #[.int .u8 x.toNat] 5)).heap.size := by simp; omega
  go_wp2_with (at_builtin; go_must (refine wpList_app _ rfl _ _ 25 rfl n 5 i0 Tryd.underlying25 hi hz0 hz1 hz2 a l.length c l rfl OX.out _ 1 1 [x] rfl SX.out (by omega) HSZ ?_))
  intro a2 c2 w2 ho2 hg
  have hb2 : Blk w2 B 63 #[.pointer (some ⟨B, 0, none⟩), .slice a l.length c] := (hg.block B (by simp; omega) (fun e => bld_ne hb ho e.symm)).trans (hb.alloc _)
  have d0 : w2.cell? ⟨B, 0, none⟩ = some (.pointer (some ⟨B, 0, none⟩)) := by rw [hb2.cell]; rfl
  have d1 : w2.cell? ⟨B, 1, none⟩ = some (.slice a l.length c) := by rw [hb2.cell]; rfl
  have f1 : w2.frozen? ⟨B, 1, none⟩ = false := hb2.frozen 1
  have Q2 := Lib.hid ((hq.alloc hn1 _).trans (app_below OX.out hg (Nat.le_refl _) HSZ))
  have K2 := Lib.hid (((hk.alloc (.cells #[.int .u8 x.toNat] 5)).grown hg (own_block OX.out)).setCell ⟨B, 1, none⟩ rfl (.slice a2 (l.length + 1) c2))
  go_wp2_with fail
  go_ret
  refine ⟨rfl, .inr ⟨h1, a2, c2, ?_, ?_⟩, Q2.out.setCell (p := ⟨B, 1, none⟩) h1 _, K2.out⟩
  · rw [List.length_append]
    exact hb2.set_ 1 _
  · rw [List.length_append]
    exact bld_far hb2 ho2 _ 1
end Go.Proofs.YtkmpmphabohkkaaDoor
