/-
  Contracts of what is valid, of the program and of the reference.
-/
import Derived.Test.YtfflfahhfhnkdaaBitMath3
import Derived.Test.YtfflfahhfhnkdaaInfoU8
import Derived.Test.YtfflfahhfhnkdaaSlices
import Derived.BigQuiet
namespace Go.Proofs.Ytfflfahhfhnkdaa
open Go.RowKit

/-- a bit string as a value -/
def bV (a : Option Addr) (n c : Nat) (u : Int) : Value := .agg #[.slice a n c, .int .i64 u]
theorem vB_empty (u : Int) : vB [] u = (u == 0) := by
  rw [Bool.eq_iff_iff, vB_true, beq_iff_eq]
  constructor
  · exact fun h => h.2.2.1 rfl
  · rintro rfl
    exact ⟨by omega, by omega, fun _ => rfl, rfl⟩
theorem vB_off {l : List UInt8} {u : Int} (h : u < 0 ∨ 8 ≤ u) : vB l u = false := by
  rw [← Bool.not_eq_true, vB_true]
  omega
theorem vB_last {l : List UInt8} {m k : Nat} (hl : l.length = m + 1) (hk : k ≤ 7) : vB l k = ((l[m]'(by omega)).toNat % 2 ^ k == 0) := by
  rw [Bool.eq_iff_iff, vB_true, lastO_at hl, beq_iff_eq, Int.toNat_natCast]
  constructor
  · exact fun h => h.2.2.2
  · refine fun h => ⟨by omega, by omega, fun e => ?_, h⟩
    subst e
    simp at hl
theorem ret_bool {a b : Bool} (h : a = b) : Ending.returned (.bool a) = .returned (.bool b) := by rw [h]
theorem mod_cast_nat {x M : Nat} : (((x : Int) % (M : Int)) == 0) = (x % M == 0) := by
  rw [Bool.eq_iff_iff, beq_iff_eq, beq_iff_eq]
  omega
theorem shl_low {x : UInt8} {k : Nat} : ((x.toNat : Int) / 2 ^ k * 2 ^ k % 256 == (x.toNat : Int)) = (x.toNat % 2 ^ k == 0) := by
  have hx := x.toNat_lt
  generalize x.toNat = n at *
  have h : (n : Int) / 2 ^ k * 2 ^ k % 256 = ((n / 2 ^ k * 2 ^ k : Nat) : Int) := by
    rw [show (n : Int) / 2 ^ k * 2 ^ k = ((n / 2 ^ k * 2 ^ k : Nat) : Int) by simp]
    have := Nat.div_mul_le_self n (2 ^ k)
    omega
  rw [h, Bool.eq_iff_iff, beq_iff_eq, beq_iff_eq]
  have := Nat.div_add_mod' n (2 ^ k)
  omega

set_option maxRecDepth 100000 in
set_option maxHeartbeats 2000000 in
theorem bvalid_any {w : World} {a : Option Addr} {n c : Nat} {l : List UInt8} (h : Bs w a n c l) (u : Int) :
    Calls Try.prog 13 #[bV a n c u] w fun e w' => e = .returned (.bool (vB l u)) ∧ Below w.heap.size w w' := by
  unfold bV
  have HX := Lib.hid h
  have hl := h.len
  have hnm : n ≤ 9223372036854775807 := by have := h.2.1; have := h.2.2.1; unfold maxLen at this; omega
  clear h
  rcases n with _ | m
  · obtain rfl := List.length_eq_zero_iff.1 hl
    rw [vB_empty]
    go_enter Try.func13, Try.ntmps13
    go_wp2_with fail
    go_ret
    exact ⟨rfl, bal (Below.refl _ _) _⟩
  · have hm1 : (m : Int) + 1 ≤ 9223372036854775807 := by omega
    have hm2 : ((m : Int) + 1 == 0) = false := by simp; omega
    by_cases hu : u < 0 ∨ 8 ≤ u
    · rw [vB_off hu]
      rcases hu with hu | hu
      · go_enter Try.func13, Try.ntmps13
        go_wp2_with fail
        go_ret
        exact ⟨rfl, bal (Below.refl _ _) _⟩
      · have hu2 : ¬ u < 0 := by omega
        go_enter Try.func13, Try.ntmps13
        go_wp2_with fail
        go_ret
        exact ⟨rfl, bal (Below.refl _ _) _⟩
    · obtain ⟨k, rfl⟩ : ∃ k : Nat, u = k := ⟨u.toNat, by omega⟩
      have hk : k ≤ 7 := by omega
      obtain ⟨b, off, hll, rfl, hb, hc⟩ := HX.out.at_ (i := m) (by omega)
      have hk1 : ¬ (k : Int) < 0 := by omega
      have hk2 : ¬ (8 : Int) ≤ k := by omega
      rw [vB_last hl hk]
      have hx := byte_bd l[m]
      generalize l[m] = x at *
      go_enter Try.func13, Try.ntmps13
      go_wp2_with fail
      go_quiet (fail)
      go_wp2
      go_ret
      exact ⟨by rw [shl_low]; rfl, below_drewN (bal (Below.refl _ _) _) _⟩

set_option maxRecDepth 100000 in
set_option maxHeartbeats 2000000 in
theorem ref_bvalid_any {w : World} {a : Option Addr} {n c : Nat} {l : List UInt8} (h : Bs w a n c l) (u : Int) :
    Calls Try.prog 14 #[bV a n c u] w fun e w' => e = .returned (.bool (vB l u)) ∧ Below w.heap.size w w' := by
  unfold bV
  have HX := Lib.hid h
  have hl := h.len
  have hnm : n ≤ 9223372036854775807 := by have := h.2.1; have := h.2.2.1; unfold maxLen at this; omega
  clear h
  by_cases hu : u < 0 ∨ 8 ≤ u
  · rw [vB_off hu]
    rcases hu with hu | hu
    · go_enter Try.func14, Try.ntmps14
      go_wp2_with fail
      go_ret
      exact ⟨rfl, bal (Below.refl _ _) _⟩
    · have hu2 : ¬ u < 0 := by omega
      have hu3 : (7 : Int) < u := by omega
      go_enter Try.func14, Try.ntmps14
      go_wp2_with fail
      go_ret
      exact ⟨rfl, bal (Below.refl _ _) _⟩
  · obtain ⟨k, rfl⟩ : ∃ k : Nat, u = k := ⟨u.toNat, by omega⟩
    have hk : k ≤ 7 := by omega
    have hk1 : ¬ (k : Int) < 0 := by omega
    have hk2 : ¬ (7 : Int) < k := by omega
    rcases n with _ | m
    · obtain rfl := List.length_eq_zero_iff.1 hl
      rw [vB_empty]
      by_cases hk0 : k = 0
      · subst hk0
        go_enter Try.func14, Try.ntmps14
        go_wp2_with fail
        go_loop [3, 4] (fun s i => i = .int .i64 0 ∧ s = .int .i64 1) (fun _ _ => 0)
        case atStart => exact ⟨rfl, rfl⟩
        case round =>
          obtain ⟨rfl, rfl⟩ := hrel
          go_wp2
          go_ret
          exact ⟨rfl, bal (Below.refl _ _) _⟩
      · have hk3 : (0 : Int) < k := by omega
        have hk4 : ((k : Int) == 0) = false := by simp; omega
        rw [hk4]
        go_enter Try.func14, Try.ntmps14
        go_wp2_with fail
        go_ret
        exact ⟨rfl, bal (Below.refl _ _) _⟩
    · have hm1 : (m : Int) + 1 ≤ 9223372036854775807 := by omega
      have hm2 : ((m : Int) + 1 == 0) = false := by simp; omega
      have hm3 : ¬ (m : Int) + 1 = 0 := by omega
      obtain ⟨b, off, hll, rfl, hb, hc⟩ := HX.out.at_ (i := m) (by omega)
      rw [vB_last hl hk]
      have hx := byte_bd l[m]
      generalize l[m] = x at *
      go_enter Try.func14, Try.ntmps14
      go_wp2_with fail
      go_loop [3, 4] (fun s i => ∃ j : Nat, j ≤ k ∧ i = .int .i64 j ∧ s = .int .i64 ((2 ^ j : Nat) : Int)) (fun _ i => k - (intOf i).toNat)
      case atStart => exact ⟨0, Nat.zero_le _, rfl, rfl⟩
      case round =>
        obtain ⟨j, hj, rfl, rfl⟩ := hrel
        have hM2 : 2 ^ j ≤ 2 ^ 7 := Nat.pow_le_pow_right (by omega) (by omega)
        have hM1 := Nat.two_pow_pos j
        obtain ⟨M, hM'⟩ : ∃ M, 2 ^ j = M := ⟨_, rfl⟩
        have hM := Lib.hid hM'
        rw [hM'] at hM1 hM2 ⊢
        clear hM'
        have hM4 : (M : Int) ≤ 128 := by omega
        have hM3 : (M : Int) ≠ 0 := by omega
        by_cases hlt : j < k
        · have hlt2 : (j : Int) < k := by omega
          go_wp2
          go_round
          case rel => exact ⟨j + 1, by omega, by go_num, by rw [Nat.pow_succ, hM.out]; go_num⟩
          case measure => simp [intOf]; omega
        · obtain rfl : j = k := by omega
          go_wp2_with fail
          go_ret
          exact ⟨by rw [hM.out]; exact ret_bool mod_cast_nat, bal (Below.refl _ _) _⟩
end Go.Proofs.Ytfflfahhfhnkdaa
