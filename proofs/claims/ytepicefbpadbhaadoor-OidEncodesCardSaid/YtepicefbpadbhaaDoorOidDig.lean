/-
  Contracts of the reference's digits and number.
-/
import Derived.Test.YtepicefbpadbhaaDoorOidRight
import Derived.Test.YtepicefbpadbhaaDoorStr
import Derived.BigRegion
namespace Go.Proofs.YtepicefbpadbhaaDoor
open Go.RowKit

theorem dig_one (r : Nat) (h : r < 10) : (⟨#[48, 49, 50, 51, 52, 53, 54, 55, 56, 57]⟩ : ByteArray).extract r (r + 1) = ⟨[UInt8.ofNat (48 + r)].toArray⟩ := by
  have h2 : r = 0 ∨ r = 1 ∨ r = 2 ∨ r = 3 ∨ r = 4 ∨ r = 5 ∨ r = 6 ∨ r = 7 ∨ r = 8 ∨ r = 9 := by omega
  rcases h2 with rfl | rfl | rfl | rfl | rfl | rfl | rfl | rfl | rfl | rfl <;> decide +kernel

theorem decN_lenO (k : Nat) : ∀ N, N < 10 ^ k → (decN N).length ≤ k + 1 := by
  induction k with
  | zero =>
    intro N h
    rw [decN_small (by omega)]
    simp
  | succ k ih =>
    intro N h
    by_cases h10 : N < 10
    · rw [decN_small h10]; simp
    · rw [decN_big h10, List.length_append, List.length_singleton]
      have := ih (N / 10) (by rw [Nat.pow_succ] at h; omega)
      omega
theorem decN_len14 {N : Nat} (h : N ≤ 1000000000000) : (decN N).length ≤ 14 := decN_lenO 13 N (by omega)
theorem decN_size {N : Nat} (h : N ≤ 1000000000000) : (⟨(decN N).toArray⟩ : ByteArray).size ≤ 14 := decN_len14 h

set_option maxRecDepth 100000 in
set_option maxHeartbeats 1000000 in
theorem digits_any (K : Nat) : ∀ n ≤ K, n ≤ 1000000000000 → ∀ w : World, Calls Tryd.prog 31 #[.int .u64 (n : Int)] w fun e w' => e = .returned (.string ⟨(decN n).toArray⟩) ∧ w = w' := by
  induction K using Nat.strongRecOn with
  | _ K ih =>
    intro n hn hb w
    obtain ⟨q, hq⟩ : ∃ q, n / 10 = q := ⟨_, rfl⟩
    obtain ⟨r, hr⟩ : ∃ r, n % 10 = r := ⟨_, rfl⟩
    have hq2 : (n : Int) / 10 = q := by omega
    have hr2 : (n : Int) % 10 = r := by omega
    have hr3 : r < 10 := by omega
    have hr0 : (0 : Int) ≤ r := by omega
    have hr4 : (r : Int) < 10 := by omega
    have hn0 : (0 : Int) ≤ n := by omega
    have hn1 : (n : Int) ≤ 1000000000000 := by omega
    have H1 := Lib.hid (dig_one r hr3)
    have hw : IntKind.u64.wrap ((r : Int) + 1) = ((r + 1 : Nat) : Int) := by rw [IntKind.wrap_u64]; omega
    by_cases h10 : n < 10
    · have e1 : decN n = [UInt8.ofNat (48 + r)] := by rw [decN_small h10, show r = n from by omega]
      rw [e1]
      have h10' : (n : Int) < 10 := by omega
      clear e1 ih
      go_enter Tryd.func31, Tryd.ntmps31
      go_wp2
      go_ret
      exact ⟨by first | rfl | rw [← H1.out]; rfl, rfl⟩
    · have e1 : decN n = decN q ++ [UInt8.ofNat (48 + r)] := by rw [decN_big h10, hq, hr]
      rw [e1]
      have h10' : ¬ (n : Int) < 10 := by omega
      have HI := Lib.hid (ih q (by omega) q (Nat.le_refl _) (by omega) w)
      have hs1 := decN_size (show q ≤ 1000000000000 by omega)
      have hs2 : ((⟨#[48, 49, 50, 51, 52, 53, 54, 55, 56, 57]⟩ : ByteArray).extract r (r + 1)).size = 1 := by rw [H1.out]; rfl
      clear e1 ih
      go_enter Tryd.func31, Tryd.ntmps31
      go_wp2_with fail
      with_reducible refine HI.out.mono ?_
      rintro e w1 ⟨rfl, rfl⟩
      go_wp2
      go_ret
      exact ⟨by first | rfl | rw [← str_join, ← H1.out]; rfl, rfl⟩
end Go.Proofs.YtepicefbpadbhaaDoor
