/-
  Contract of Minimal.
-/
import Derived.Test.YtgccjdhkpgmnoaaCur
import Derived.Test.YtgccjdhkpgmnoaaNumRun
import Derived.Deep.Cut
import Derived.Test.YtgccjdhkpgmnoaaMinMath
import Derived.Test.YtgccjdhkpgmnoaaShelf
namespace Go.Proofs.Ytgccjdhkpgmnoaa
open Go.RowKit

set_option maxHeartbeats 1000000 in
theorem minimal_any {n : Nat} (hn : Hid (n < 18446744073709551616)) (w : World) :
    Calls Try.prog 49 #[.int .u64 n] w fun e w' => ∃ a c, e = .returned (.slice a (digits n).length c) ∧ Own w' w.heap.size 5 a (digits n).length c (digits n) ∧ Below w.heap.size w w' := by
  obtain ⟨i0, hi, hz0, hz1, hz2⟩ := info_parts info_u8
  have HL := Lib.hid (fun w => (Try.bits_Len64 n w (by omega) (by have := hn.out; omega)).mono (R' := fun e w' => e = .returned (.int .i64 (Lib.bitLen (n : Int).toNat)) ∧ w = w') fun _ _ h => ⟨h.1, h.2.symm⟩)
  obtain ⟨hd1, hd8⟩ := ndig_bd hn.out
  obtain ⟨B, hB⟩ : ∃ B, Hid (Lib.bitLen n = B) := ⟨_, rfl⟩
  obtain ⟨L, hL⟩ : ∃ L, Hid (ndig n = L) := ⟨_, rfl⟩
  have hLB : Hid (L = max 1 ((B + 7) / 8)) := by have := hL.out; have := hB.out; unfold ndig at *; subst this; exact this.symm
  have hBd : B ≤ 64 := by have := hLB.out; have := hL.out; have := hB.out; omega
  rw [hL.out] at hd1 hd8
  have hbn : Lib.bitLen ((n : Int).toNat) = B := by simpa using hB.out
  rw [hbn] at HL
  clear hbn
  rw [digits_len, hL.out]
  have HLB := Lib.hid (show (max 1 (((B : Int) + 7) / 8)) = (L : Int) by have := hLB.out; omega)
  have hb0 := Lib.hid (Below.refl w.heap.size w)
  go_enter Try.func49, Try.ntmps49
  go_wp2_with (first | (go_at_call 56; go_must (refine (HL.out _).mono ?_); rintro e w' ⟨rfl, rfl⟩) | (at_make; go_must (refine wpList_make_full _ rfl _ _ 22 rfl w.heap.size 5 i0 (.int .u8 0) 1 Try.underlying22 hi hz0 hz1 .i64 .i64 _ _ L rfl rfl HLB.out HLB.out (by rw [hz2]; omega) (by unfold maxLen; omega) (Nat.le_refl _) ?_); intro w1 ho1 hg1))
  rw [made_zeros] at ho1
  have HO : Hid (Own w1 w.heap.size 5 (some ⟨w.heap.size, 0, none⟩) L L (List.replicate L 0)) := ho1
  have HB1 := Lib.hid (hb0.out.grown hg1 (Nat.le_refl _) (fun _ h => by cases h))
  clear ho1 hg1
  go_loopw [0, 4] (fun v i wr => ∃ j m : Nat, ∃ tail, j ≤ L ∧ i = .int .i64 ((j : Int) - 1) ∧ v = .int .u64 m ∧ Own wr w.heap.size 5 (some ⟨w.heap.size, 0, none⟩) L L (List.replicate j 0 ++ tail) ∧ dg L n = dg j m ++ tail ∧ Below w.heap.size w wr) (fun _ i _ => (intOf i + 1).toNat)
  case atStart => exact ⟨L, n, [], Nat.le_refl _, rfl, rfl, by simpa using HO.out, by simp, HB1.out⟩
  case round =>
    obtain ⟨j, m, tail, hj, rfl, rfl, ho, hd, hb⟩ := hrel
    have HD := Lib.hid hd
    have HB := Lib.hid hb
    clear hd hb
    cases j with
    | zero =>
      have HO := Lib.hid ho
      clear ho
      rw [show (((0 : Nat) : Int) - 1) = -1 from rfl]
      go_wp2
      go_ret
      have e : digits n = [] ++ tail := by unfold digits; rw [hL.out, HD.out]; rfl
      exact ⟨_, L, rfl, by rw [e]; exact HO.out, HB.out⟩
    | succ k =>
      have hc := ho.cell (j := k) (by simp; omega)
      have hf := ho.frozen k
      have e0 : (List.replicate (k + 1) 0 ++ tail)[k]'(by simp; omega) = (0 : UInt8) := by simp
      rw [e0] at hc
      clear e0
      have HO := Lib.hid (ho.stored k (UInt8.ofNat m))
      clear ho
      rw [show (((k + 1 : Nat) : Int) - 1) = k from by omega]
      go_wp2
      rw [byte_wrap m]
      refine ⟨⟨k, m / 256, UInt8.ofNat m :: tail, by omega, rfl, by simp, by rw [← fill_step]; exact HO.out, by rw [HD.out]; simp [dg], HB.out.setCell (Nat.le_refl _) _⟩, by simp [intOf]⟩
end Go.Proofs.Ytgccjdhkpgmnoaa
