/-
  Contract of negated.
-/
import Derived.Test.YtammegdfjgphkaaDoorIntUns
import Derived.Test.YtammegdfjgphkaaDoorIntDec
import Derived.Test.YtammegdfjgphkaaDoorMinMath
import Derived.Laws.BitsAllLaws
import Derived.Laws.Shifts
namespace Go.Proofs.YtammegdfjgphkaaDoor
open Go.RowKit

theorem xor255 (x : UInt8) : 255 ^^^ x.toNat = 255 - x.toNat := by
  have h : ∀ n : Fin 256, 255 ^^^ n.val = 255 - n.val := by decide +kernel
  exact h ⟨x.toNat, x.toNat_lt⟩
theorem not_byte (x : UInt8) : bits BinOp.xor IntKind.u8 (if IntKind.u8.signed = true then -1 else IntKind.u8.max) (x.toNat : Int) = ((255 - x.toNat : Nat) : Int) := by
  have e : (if IntKind.u8.signed = true then -1 else IntKind.u8.max) = ((255 : Nat) : Int) := rfl
  rw [e, u8_xor_nat 255 x.toNat (by omega) x.toNat_lt, xor255]
theorem neg_slot {C V : Nat} {x : UInt8} (h : C + (255 - x.toNat) = V) (hV : V ≤ 256) : wrap64 ((C : Int) + wrap64 (bits BinOp.xor IntKind.u8 (if IntKind.u8.signed = true then -1 else IntKind.u8.max) (x.toNat : Int))) = V := by
  rw [not_byte]
  unfold wrap64
  omega

set_option maxRecDepth 100000 in
set_option maxHeartbeats 2000000 in
theorem negated_any {w : World} {a : Option Addr} {n c : Nat} {l : List UInt8} (h : Bs w a n c l) (hz : n ≤ 1000000) :
    Calls Tryd.prog 44 #[.slice a n c] w fun e w' => ∃ a' c' r, e = .returned (.slice a' n c') ∧ Own w' w.heap.size 5 a' n c' r ∧ r.length = n ∧ (∃ C : Nat, bnum r + C * 256 ^ r.length + bnum l = 256 ^ r.length) ∧ Below w.heap.size w w' := by
  obtain ⟨i0, hi, hz0, hz1, hz2⟩ := info_parts info_u8
  have HX := Lib.hid h
  have HL := Lib.hid h.len
  have hb0 := Lib.hid (Below.refl w.heap.size w)
  clear h
  go_enter Tryd.func44, Tryd.ntmps44
  go_wp2_with (at_make; go_must (refine wpList_make_full _ rfl _ _ 22 rfl w.heap.size 5 i0 (.int .u8 0) 1 Tryd.underlying22 hi hz0 hz1 .i64 .i64 _ _ n rfl rfl rfl rfl (by rw [hz2]; omega) (by unfold maxLen; omega) (Nat.le_refl _) ?_); intro w1 ho1 hg1)
  rw [made_zeros] at ho1
  obtain ⟨g, hg⟩ : ∃ g, w.heap.size = g := ⟨_, rfl⟩
  have HO : Hid (Own w1 w.heap.size 5 (some ⟨g, 0, none⟩) n n (List.replicate n 0)) := by rw [← hg]; exact ho1
  have HB1 := Lib.hid (hb0.out.grown hg1 (Nat.le_refl _) (fun _ h => by cases h))
  clear ho1 hg1
  go_wp2
  go_loopw [4, 12] (fun v i wr => ∃ k C : Nat, ∃ tl, k ≤ n ∧ i = .int .i64 k ∧ v = .int .i64 C ∧ Own wr w.heap.size 5 (some ⟨g, 0, none⟩) n n (List.replicate (n - k) 0 ++ tl) ∧ tl.length = k ∧ bnum tl + C * 256 ^ tl.length + bnum (l.drop (n - k)) = 256 ^ tl.length ∧ C ≤ 1 ∧ Below w.heap.size w wr) (fun _ i _ => n - (intOf i).toNat)
  case atStart => exact ⟨0, 1, [], by omega, rfl, rfl, by simpa using HO.out, rfl, by rw [List.drop_of_length_le (by have := HL.out; omega)]; rfl, Nat.le_refl _, HB1.out⟩
  case round =>
    obtain ⟨k, C, tl, hk, rfl, rfl, ho, htl, hv, hC, hb⟩ := hrel
    have HB := Lib.hid hb
    have HT := Lib.hid htl
    have HV := Lib.hid hv
    clear hb htl hv
    by_cases hlt : k < n
    · obtain ⟨j, hj⟩ : ∃ j, j + k + 1 = n := ⟨n - 1 - k, by omega⟩
      have hj2 : n - k = j + 1 := by omega
      have hj3 : n - (k + 1) = j := by omega
      rw [hj2] at ho HV
      have hjl : j < l.length := by have := HL.out; omega
      obtain ⟨b, off, hkl, rfl, _, hx⟩ := (HX.out.below HB.out).at_ (i := j) (by omega)
      have hc := ho.cell (j := j) (by simp; omega)
      have hf := ho.frozen j
      have HST := fun x => Lib.hid (ho.stored j x)
      have HNS := fun y hy => Lib.hid (neg_step (c := l) (tl := tl) (k := j) (C := C) hkl (by have := HL.out; have := HT.out; omega) HV.out (y := y) hy)
      generalize l[j] = x at *
      have hxb := byte_bd x
      obtain ⟨V, hVd⟩ : ∃ V, C + (255 - x.toNat) = V := ⟨_, rfl⟩
      rw [hVd] at HNS
      have hV2 : (C : Int) + (255 - (x.toNat : Int)) = V := by omega
      have hVb : (V : Int) ≤ 256 := by omega
      have hyv : (UInt8.ofNat (V % 256)).toNat = V % 256 := by rw [UInt8.toNat_ofNat']; omega
      have HS := HST (UInt8.ofNat (V % 256))
      have HN := HNS (UInt8.ofNat (V % 256)) hyv
      rw [fill_step, hyv] at HS
      have HYV := Lib.hid hyv
      have hk0 : (0 : Int) ≤ k := by omega
      have hk1 : (k : Int) < n := by omega
      have hj0 : (0 : Int) ≤ j := by omega
      have hjn : (j : Int) < n := by omega
      have hjk : (n : Int) - 1 - k = j := by omega
      clear ho HST HNS hyv hkl hjl
      have HSL := Lib.hid (neg_slot hVd (by omega))
      clear hV2
      go_wp2
      rw [HSL.out]
      refine ⟨⟨k + 1, V / 256, UInt8.ofNat (V % 256) :: tl, by omega, by go_num, by rw [Int.natCast_ediv]; rfl, ?_, by rw [List.length_cons, HT.out], by rw [hj3]; exact HN.out, by omega, HB.out.setCell (p := ⟨g, j, none⟩) (by show w.heap.size ≤ g; omega) _⟩, by simp [intOf]; omega⟩
      rw [hj3]
      have e := HS.out
      rw [Int.natCast_emod] at e
      exact e
    · obtain rfl : k = n := by omega
      have HO2 := Lib.hid ho
      rw [Nat.sub_self, List.replicate_zero, List.nil_append] at HO2
      have HV2 := Lib.hid HV.out
      rw [Nat.sub_self, List.drop_zero] at HV2
      clear ho
      go_wp2
      go_ret
      rw [hg] at *
      exact ⟨_, _, tl, rfl, HO2.out, HT.out, ⟨C, HV2.out⟩, HB.out⟩
end Go.Proofs.YtammegdfjgphkaaDoor
