/-
  A character written into a strings.Builder of the call's own; the number of some octets.
-/
import Derived.Test.YtkmpmphabohkkaaDoorChBld
import Derived.Test.YtkmpmphabohkkaaDoorChMath
import Derived.Test.YtkmpmphabohkkaaDoorShelf
import Derived.Lib.RuneBytes
namespace Go.Proofs.YtkmpmphabohkkaaDoor
open Go.RowKit

theorem rune_cells {x : Nat} (h : scal x = true) : Lib.runeCells x = cellsOf (u8O x) := by
  have hs := scal_true.1 h
  unfold Lib.runeCells
  by_cases h1 : x < 128
  · rw [Lib.encodeRuneZ_one (by omega) (by omega), u8O_1 h h1]
    show [Value.int .u8 _] = [Value.int .u8 _]
    rw [by8_nat (by omega)]
  · by_cases h2 : x < 2048
    · rw [Lib.encodeRuneZ_two (by omega) (by omega), u8O_2 h h1 h2]
      show [Value.int .u8 _, Value.int .u8 _] = [Value.int .u8 _, Value.int .u8 _]
      rw [by8_nat (by omega), by8_nat (by omega)]
      rfl
    · by_cases h3 : x < 65536
      · rw [Lib.encodeRuneZ_three (by omega), u8O_3 h h2 h3]
        show [Value.int .u8 _, Value.int .u8 _, Value.int .u8 _] = [Value.int .u8 _, Value.int .u8 _, Value.int .u8 _]
        rw [by8_nat (by omega), by8_nat (by omega), by8_nat (by omega)]
        rfl
      · rw [Lib.encodeRuneZ_four (by omega) (by omega), u8O_4 h h3]
        show [Value.int .u8 _, Value.int .u8 _, Value.int .u8 _, Value.int .u8 _] = [Value.int .u8 _, Value.int .u8 _, Value.int .u8 _, Value.int .u8 _]
        rw [by8_nat (by omega), by8_nat (by omega), by8_nat (by omega), by8_nat (by omega)]
        rfl
theorem cells_app (l r : List UInt8) : cellsOf l ++ cellsOf r = cellsOf (l ++ r) := by simp [cellsOf]
theorem own_of {w : World} {B : Nat} {e : TypeId} {v : Value} {n : Nat} {l : List UInt8} (h : w.ownsRow B e 1 v n (cellsOf l)) : ∃ a c, v = .slice a n c ∧ Own w B e a n c l := by
  rcases h.2 with ⟨rfl, rfl⟩ | ⟨g, cap, cur, rfl, h2⟩
  · exact ⟨none, 0, rfl, h⟩
  · exact ⟨_, _, rfl, h⟩
theorem apprune_any {w : World} {n : Nat} {a : Option Addr} {c : Nat} {l : List UInt8} (h : Own w n 5 a l.length c l) (x : Nat) (hs : scal x = true) (hz : l.length ≤ 1000000) (hn : n ≤ w.heap.size) :
    Calls Tryd.prog 64 #[.slice a l.length c, .int .i32 x] w fun e w' => ∃ a' c', e = .returned (.slice a' (l ++ u8O x).length c') ∧ Own w' n 5 a' (l ++ u8O x).length c' (l ++ u8O x) ∧ ∃ o, (w.alloc o).grownBy w' (Value.ownBlock (.slice a l.length c)) := by
  have hb := scal_true.1 hs
  refine (Tryd.utf8_AppendRune_plain n _ l.length _ x (by omega) (by omega) w h (by omega) hn).mono ?_
  rintro e w' ⟨v', rfl, ho, hg⟩
  rw [rune_cells hs, cells_app, cellsOf_len, ← List.length_append] at ho
  obtain ⟨a', c', rfl, ho'⟩ := own_of ho
  exact ⟨a', c', rfl, ho', hg⟩

set_option maxRecDepth 100000 in
theorem wrune_any {w : World} {n B : Nat} {l : List UInt8} (h : Bld w n B l) (x : Nat) (hs : scal x = true) (hz : l.length ≤ 1000000) (hn : n ≤ w.heap.size) :
    Calls Tryd.prog 50 #[.pointer (some ⟨B, 0, none⟩), .int .i32 x] w fun e w' => (∃ v, e = .returned v) ∧ Bld w' n B (l ++ u8O x) ∧ Below n w w' ∧ KeptU B w w' := by
  have H := Lib.hid (ccheck_any h)
  go_enter Tryd.func50, Tryd.ntmps50
  go_wp2_with fail
  with_reducible refine H.out.mono ?_
  rintro e w1 ⟨rfl, ⟨h1, a, c, hb, ho⟩, hq, hk⟩
  have hn1 : n ≤ w1.heap.size := Nat.le_trans hn hq.size
  have c0 : w1.cell? ⟨B, 0, none⟩ = some (.pointer (some ⟨B, 0, none⟩)) := by rw [hb.cell]; rfl
  have c1 : w1.cell? ⟨B, 1, none⟩ = some (.slice a l.length c) := by rw [hb.cell]; rfl
  have HA := Lib.hid (apprune_any ho x hs hz hn1)
  obtain ⟨M, hM⟩ : ∃ M, (l ++ u8O x).length = M := ⟨_, rfl⟩
  have HM := Lib.hid hM
  rw [hM] at HA
  clear hM
  have HNE := Lib.hid (bld_ne hb ho)
  have HOB := Lib.hid (own_block ho)
  have HAB := Lib.hid ho
  have hlt := hb.lt
  go_wp2_with fail
  with_reducible refine HA.out.mono ?_
  rintro e w2 ⟨a2, c2, rfl, ho2, o, hg⟩
  have hb2 : Blk w2 B 63 #[.pointer (some ⟨B, 0, none⟩), .slice a l.length c] := (hg.block B (by simp; omega) (fun e => HNE.out e.symm)).trans (hb.alloc _)
  have d0 : w2.cell? ⟨B, 0, none⟩ = some (.pointer (some ⟨B, 0, none⟩)) := by rw [hb2.cell]; rfl
  have d1 : w2.cell? ⟨B, 1, none⟩ = some (.slice a l.length c) := by rw [hb2.cell]; rfl
  have f1 : w2.frozen? ⟨B, 1, none⟩ = false := hb2.frozen 1
  have OX : Hid (Own (w1.alloc o) n 5 a l.length c l) := World.ownsRow.alloc HAB.out o
  have Q2 := Lib.hid ((hq.alloc hn1 o).trans (app_below OX.out hg (Nat.le_refl _) (by simp; omega)))
  have K2 := Lib.hid (((hk.alloc o).grown hg (own_block OX.out)).setCell ⟨B, 1, none⟩ rfl (.slice a2 M c2))
  have B3 := Lib.hid (hb2.set_ 1 (.slice a2 M c2))
  have O3 := Lib.hid (bld_far hb2 ho2 (.slice a2 M c2) 1)
  go_wp2_with fail
  go_ret2
  exact ⟨⟨_, rfl⟩, .inr ⟨h1, a2, c2, by rw [HM.out]; exact B3.out, by rw [HM.out]; exact O3.out⟩, Q2.out.setCell (p := ⟨B, 1, none⟩) h1 _, K2.out⟩

/-! ### the number that some octets stand for -/
def chI (l : List UInt8) : Nat := l.foldl (fun x b => x * 256 + b.toNat) 0
/-- as a number of 32 bits with a sign -/
def chS (l : List UInt8) : Int := IntKind.i32.wrap (chI l)
theorem chI_snoc (l : List UInt8) (b : UInt8) : chI (l ++ [b]) = chI l * 256 + b.toNat := by
  unfold chI
  rw [List.foldl_append]
  rfl
theorem or_low {X Y : Int} (hX : X % 256 = 0) (h0 : 0 ≤ Y) (h1 : Y < 256) : bits .or .i32 X Y = IntKind.i32.wrap (X + Y) := by
  unfold bits
  dsimp only
  have e0 : IntKind.i32.bits = 32 := rfl
  rw [e0, BitVec.toNat_or, BitVec.toNat_ofInt, BitVec.toNat_ofInt]
  obtain ⟨A, hA⟩ : ∃ A : Nat, (X % ((2 ^ 32 : Nat) : Int)).toNat = 2 ^ 8 * A := ⟨(X % ((2 ^ 32 : Nat) : Int)).toNat / 256, by omega⟩
  obtain ⟨B, hB⟩ : ∃ B : Nat, (Y % ((2 ^ 32 : Nat) : Int)).toNat = B := ⟨_, rfl⟩
  have hB1 : B < 2 ^ 8 := by omega
  rw [hA, hB, ← Nat.two_pow_add_eq_or_of_lt hB1, ← hA, ← hB]
  rw [IntKind.wrap_i32, IntKind.wrap_i32]
  omega
theorem char_step (x : Int) (N : Nat) (b : UInt8) (hx : x = IntKind.i32.wrap N) : bits .or .i32 (wrap32 (x * 256)) (wrap32 (b.toNat : Int)) = IntKind.i32.wrap ((N * 256 + b.toNat : Nat) : Int) := by
  have hb := b.toNat_lt
  have e1 : wrap32 (b.toNat : Int) = b.toNat := by unfold wrap32; omega
  rw [e1, or_low (by unfold wrap32; omega) (by omega) (by omega), hx]
  unfold wrap32
  rw [IntKind.wrap_i32, IntKind.wrap_i32, IntKind.wrap_i32]
  omega
set_option maxRecDepth 100000 in
theorem char_any {w : World} {a : Option Addr} {n c : Nat} {l : List UInt8} (h : Bs w a n c l) (hn : n ≤ 4) :
    Calls Tryd.prog 49 #[.slice a n c] w fun e w' => e = .returned (.int .i32 (chS l)) ∧ w' = w := by
  have hl := h.len
  have hX := Lib.hid h
  have hn2 : (n : Int) ≤ 4 := by omega
  have hn0 : (0 : Int) ≤ n := by omega
  clear h
  go_enter Tryd.func49, Tryd.ntmps49
  go_wp2_with fail
  go_loop [3, 8] (fun v i => ∃ j : Nat, j ≤ n ∧ i = .int .i64 j ∧ v = .int .i32 (chS (l.take j))) (fun _ i => (n - intOf i).toNat)
  case atStart => exact ⟨0, Nat.zero_le _, rfl, rfl⟩
  case round =>
    obtain ⟨j, hj, rfl, rfl⟩ := hrel
    have hj0 : (0 : Int) ≤ j := by omega
    by_cases hlt : j < n
    · have hlt2 : (j : Int) < n := by omega
      obtain ⟨g, off, hjl, rfl, hg, hc⟩ := hX.out.at_ hlt
      obtain ⟨b, hb⟩ : ∃ b : UInt8, l[j]'(by omega) = b := ⟨_, rfl⟩
      rw [hb] at hc
      have HST : Hid (∀ x, x = chS (l.take j) → bits .or .i32 (wrap32 (x * 256)) (wrap32 (b.toNat : Int)) = chS (l.take (j + 1))) := by
        intro x hx
        rw [char_step x (chI (l.take j)) b hx, ← chI_snoc, ← hb, ← List.take_succ_eq_append_getElem hjl]
        rfl
      obtain ⟨x, hx⟩ : ∃ x, chS (l.take j) = x := ⟨_, rfl⟩
      rw [hx]
      have HX2 := Lib.hid hx
      clear hx hb
      go_wp2_with fail
      go_roundw
      case rel => exact ⟨j + 1, by omega, by go_num, by rw [← HST.out x HX2.out.symm]⟩
      case measure => simp [intOf]; omega
    · obtain rfl : j = n := by omega
      have hlt2 : ¬ (j : Int) < j := by omega
      have e : l.take j = l := List.take_of_length_le (by omega)
      rw [e]
      go_wp2_with fail
      go_ret
      exact ⟨rfl, rfl⟩
end Go.Proofs.YtkmpmphabohkkaaDoor
