/-
  Contracts: FromInt, of the program and of the reference.
-/
import Derived.Test.YtammegdfjgphkaaDoorIntValid
import Derived.Test.YtammegdfjgphkaaDoorAppend
import Derived.Test.YtammegdfjgphkaaDoorLit
import Derived.Laws.Shifts
import Derived.Test.YtammegdfjgphkaaDoorMinMath
namespace Go.Proofs.YtammegdfjgphkaaDoor
open Go.RowKit

/-- the last octets of an integer -/
def lowB : Nat → Int → List UInt8
  | 0, _ => []
  | k + 1, n => UInt8.ofNat ((n / 256 ^ k) % 256).toNat :: lowB k n
theorem lowB_len (n : Int) : ∀ k, (lowB k n).length = k
  | 0 => rfl
  | k + 1 => by simp [lowB, lowB_len n k]
theorem byte_of (m : Int) : ((UInt8.ofNat (m % 256).toNat).toNat : Int) = m % 256 := low_byte m
theorem lowB_val {n : Int} (h1 : -9223372036854775808 ≤ n) (h2 : n ≤ 9223372036854775807) : sval (lowB 8 n) = n := by
  have e : lowB 8 n = [UInt8.ofNat ((n / 72057594037927936) % 256).toNat, UInt8.ofNat ((n / 281474976710656) % 256).toNat, UInt8.ofNat ((n / 1099511627776) % 256).toNat, UInt8.ofNat ((n / 4294967296) % 256).toNat, UInt8.ofNat ((n / 16777216) % 256).toNat, UInt8.ofNat ((n / 65536) % 256).toNat, UInt8.ofNat ((n / 256) % 256).toNat, UInt8.ofNat ((n / 1) % 256).toNat] := rfl
  have b7 := byte_of (n / 72057594037927936)
  have b6 := byte_of (n / 281474976710656)
  have b5 := byte_of (n / 1099511627776)
  have b4 := byte_of (n / 4294967296)
  have b3 := byte_of (n / 16777216)
  have b2 := byte_of (n / 65536)
  have b1 := byte_of (n / 256)
  have b0 := byte_of (n / 1)
  rw [e]
  generalize UInt8.ofNat ((n / 72057594037927936) % 256).toNat = x7 at *
  generalize UInt8.ofNat ((n / 281474976710656) % 256).toNat = x6 at *
  generalize UInt8.ofNat ((n / 1099511627776) % 256).toNat = x5 at *
  generalize UInt8.ofNat ((n / 4294967296) % 256).toNat = x4 at *
  generalize UInt8.ofNat ((n / 16777216) % 256).toNat = x3 at *
  generalize UInt8.ofNat ((n / 65536) % 256).toNat = x2 at *
  generalize UInt8.ofNat ((n / 256) % 256).toNat = x1 at *
  generalize UInt8.ofNat ((n / 1) % 256).toNat = x0 at *
  rw [sval_cons]
  simp only [bnum_cons, bnum_nil, List.length_cons, List.length_nil]
  have p7 : (256 : Nat) ^ 7 = 72057594037927936 := by decide
  have p6 : (256 : Nat) ^ 6 = 281474976710656 := by decide
  have p5 : (256 : Nat) ^ 5 = 1099511627776 := by decide
  have p4 : (256 : Nat) ^ 4 = 4294967296 := by decide
  have p3 : (256 : Nat) ^ 3 = 16777216 := by decide
  have p2 : (256 : Nat) ^ 2 = 65536 := by decide
  simp only [Nat.zero_add, Nat.reduceAdd, p7, p6, p5, p4, p3, p2, Nat.pow_one, Nat.pow_zero]
  split <;> omega

theorem sh8 (n : Int) (k : Nat) : n / 2 ^ (8 * k) = n / 256 ^ k := by
  rw [Int.pow_mul]
  rfl
theorem senc_low {n : Int} (h : sval (lowB 8 n) = n) : stripI (lowB 8 n) = senc n := by
  rw [stripI_eq _ (by intro e; have := congrArg List.length e; rw [lowB_len] at this; cases this), h]

set_option maxHeartbeats 1000000 in
theorem fromInt_any {n : Int} (h1 : -9223372036854775808 ≤ n) (h2 : n ≤ 9223372036854775807) (w : World) :
    Calls Tryd.prog 23 #[.int .i64 n] w fun e w' => ∃ a c, e = .returned (.slice a (senc n).length c) ∧ Bs w' a (senc n).length c (senc n) ∧ Below w.heap.size w w' := by
  obtain ⟨i0, hi, hz0, hz1, hz2⟩ := info_parts info_u8
  have HV := Lib.hid (lowB_val h1 h2)
  have hb0 := Lib.hid (Below.refl w.heap.size w)
  clear h1 h2
  go_enter Tryd.func23, Tryd.ntmps23
  go_wp2_with (at_make; go_must (refine wpList_make_full _ rfl _ _ 22 rfl w.heap.size 5 i0 (.int .u8 0) 1 Tryd.underlying22 hi hz0 hz1 .i64 .i64 _ _ 8 rfl rfl rfl rfl (by rw [hz2]; omega) (by unfold maxLen; omega) (Nat.le_refl _) ?_); intro w1 ho1 hg1)
  rw [made_zeros] at ho1
  have HO : Hid (Own w1 w.heap.size 5 (some ⟨w.heap.size, 0, none⟩) 8 8 (List.replicate 8 0)) := ho1
  have HB1 := Lib.hid (hb0.out.grown hg1 (Nat.le_refl _) (fun _ h => by cases h))
  clear ho1 hg1
  go_loopw [6] (fun i wr => ∃ k : Nat, k ≤ 8 ∧ i = .int .i64 k ∧ Own wr w.heap.size 5 (some ⟨w.heap.size, 0, none⟩) 8 8 (List.replicate (8 - k) 0 ++ lowB k n) ∧ Below w.heap.size w wr) (fun i _ => 8 - (intOf i).toNat)
  case atStart => exact ⟨0, by omega, rfl, by simpa [lowB] using HO.out, HB1.out⟩
  case round =>
    obtain ⟨k, hk, rfl, ho, hb⟩ := hrel
    have HB := Lib.hid hb
    clear hb
    by_cases hlt : k < 8
    · obtain ⟨j, hj⟩ : ∃ j, j + k + 1 = 8 := ⟨7 - k, by omega⟩
      have hj2 : 8 - k = j + 1 := by omega
      rw [hj2] at ho
      have hc := ho.cell (j := j) (by simp [lowB_len]; omega)
      have hf := ho.frozen j
      have e0 : (List.replicate (j + 1) 0 ++ lowB k n)[j]'(by simp [lowB_len]; omega) = (0 : UInt8) := by simp
      rw [e0] at hc
      have HS := Lib.hid (ho.stored j (UInt8.ofNat ((n / 256 ^ k) % 256).toNat))
      rw [byte_of] at HS
      clear ho e0
      have hk0 : (0 : Int) ≤ k := by omega
      have hk8 : (k : Int) < 8 := by omega
      have hjk : (7 : Int) - k = j := by omega
      have hj8 : (j : Int) < 8 := by omega
      have hj3 : 8 - (k + 1) = j := by omega
      go_wp2
      rw [sh8]
      refine ⟨⟨k + 1, by omega, by go_num, ?_, HB.out.setCell (Nat.le_refl _) _⟩, by simp [intOf]; omega⟩
      rw [hj3]
      have e := HS.out
      rw [fill_step] at e
      exact e
    · have hk8 : k = 8 := by omega
      subst hk8
      have HO2 := Lib.hid (shortest_any ho.bs)
      rw [Nat.sub_self, List.replicate_zero, List.nil_append, senc_low HV.out] at HO2
      clear ho
      go_wp2_with (go_at_call 37; go_must (refine HO2.out.mono ?_); rintro e w' ⟨⟨a', c', rfl, hbs, hp⟩, rfl⟩)
      go_ret
      exact ⟨a', c', rfl, hbs, HB.out⟩

set_option maxHeartbeats 1000000 in
theorem ref_fromInt_any (k : Nat) : ∀ (n : Int) (w : World), n.natAbs ≤ k → Hid (-9223372036854775808 ≤ n ∧ n ≤ 9223372036854775807) →
    Calls Tryd.prog 25 #[.int .i64 n] w fun e w' => ∃ a c, e = .returned (.slice a (senc n).length c) ∧ Own w' w.heap.size 5 a (senc n).length c (senc n) ∧ Below w.heap.size w w' := by
  induction k using Nat.strongRecOn with
  | _ k ih =>
  intro n w hk hn
  by_cases h : -128 ≤ n ∧ n < 128
  · rw [senc_small h]
    obtain ⟨h1, h2⟩ := h
    have hb := byte_of n
    generalize UInt8.ofNat (n % 256).toNat = x at *
    go_enter Tryd.func25, Tryd.ntmps25
    go_wp2
    go_ret
    rw [← hb]
    exact ⟨_, 1, rfl, own_lit _ _ [x] 1 rfl rfl (by decide) (Nat.le_refl _), (Below.refl _ _).alloc (Nat.le_refl _) _⟩
  · have hn' := hn.out
    have HD := Lib.hid (senc_big h)
    have HL := Lib.hid (senc_len (n := n / 256) (by omega) (by omega))
    have HI := Lib.hid (fun w => ih (n / 256).natAbs (by omega) (n / 256) w (Nat.le_refl _) (Lib.hid (by omega)))
    have hb := byte_of n
    obtain ⟨i0, hi, hz0, hz1, hz2⟩ := info_parts info_u8
    generalize hl : senc (n / 256) = l at *
    clear hl ih
    have hll := HL.out
    by_cases hlo : -128 ≤ n
    · have hhi : ¬ n < 128 := by omega
      clear h hn'
      go_enter Tryd.func25, Tryd.ntmps25
      go_wp2_with (first | (go_at_call 25; go_must (refine (HI.out _).mono ?_); rintro e w1 ⟨a1, c1, rfl, ho1, hb1⟩) | (at_builtin; rw [← hb]; go_must (refine wpList_app _ rfl _ _ 22 rfl w.heap.size 5 i0 Tryd.underlying22 hi hz0 hz1 hz2 a1 l.length c1 l rfl (World.ownsRow.alloc ho1 _) (some ⟨w1.heap.size, 0, none⟩) 1 1 [UInt8.ofNat (n % 256).toNat] rfl (bs_lit w1 _ _ _ 1 rfl rfl (by decide)) ?c1 ?c2 ?_)))
      case c1 => omega
      case c2 => have := hb1.size; simp; omega
      intro a2 c2 w2 ho2 hg2
      have HO := Lib.hid ho2
      have HB : Hid (Below w.heap.size w w2) := (bal hb1 _).trans (app_below (World.ownsRow.alloc ho1 _) hg2 (Nat.le_refl _) (by have := hb1.size; simp; omega))
      clear ho2 hg2
      go_wp2
      go_ret
      rw [HD.out]
      have hlen : (l ++ [UInt8.ofNat (n % 256).toNat]).length = l.length + 1 := by simp
      rw [hlen]
      exact ⟨a2, c2, rfl, HO.out, HB.out⟩
    · clear h hn'
      go_enter Tryd.func25, Tryd.ntmps25
      go_wp2_with (first | (go_at_call 25; go_must (refine (HI.out _).mono ?_); rintro e w1 ⟨a1, c1, rfl, ho1, hb1⟩) | (at_builtin; rw [← hb]; go_must (refine wpList_app _ rfl _ _ 22 rfl w.heap.size 5 i0 Tryd.underlying22 hi hz0 hz1 hz2 a1 l.length c1 l rfl (World.ownsRow.alloc ho1 _) (some ⟨w1.heap.size, 0, none⟩) 1 1 [UInt8.ofNat (n % 256).toNat] rfl (bs_lit w1 _ _ _ 1 rfl rfl (by decide)) ?c1 ?c2 ?_)))
      case c1 => omega
      case c2 => have := hb1.size; simp; omega
      intro a2 c2 w2 ho2 hg2
      have HO := Lib.hid ho2
      have HB : Hid (Below w.heap.size w w2) := (bal hb1 _).trans (app_below (World.ownsRow.alloc ho1 _) hg2 (Nat.le_refl _) (by have := hb1.size; simp; omega))
      clear ho2 hg2
      go_wp2
      go_ret
      rw [HD.out]
      have hlen : (l ++ [UInt8.ofNat (n % 256).toNat]).length = l.length + 1 := by simp
      rw [hlen]
      exact ⟨a2, c2, rfl, HO.out, HB.out⟩
end Go.Proofs.YtammegdfjgphkaaDoor
