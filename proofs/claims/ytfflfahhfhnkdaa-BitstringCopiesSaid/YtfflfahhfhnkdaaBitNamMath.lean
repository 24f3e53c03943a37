/-
  Plain mathematics: the octets of a set, bit by bit, as the walks need them; what EncodeNamed and DecodeNamed return.
-/
import Derived.Test.YtfflfahhfhnkdaaBitMem
namespace Go.Proofs.Ytfflfahhfhnkdaa
open Go.RowKit

def enL (s m : Int) : List UInt8 := (encNam s m).getD []
def enC (s m : Int) : Nat := if (encNam s m).isSome = true then 0 else 9
theorem en_no {s m : Int} (h : ¬ (1 ≤ m ∧ m ≤ 32 ∧ 0 ≤ s ∧ s.toNat < 2 ^ m.toNat)) : enL s m = [] ∧ enC s m = 9 := by
  unfold enL enC
  rw [encNam_bad h]
  exact ⟨rfl, rfl⟩
theorem en_yes {s m : Nat} (h1 : 1 ≤ m) (h2 : m ≤ 32) (h : s < 2 ^ m) : enL s m = namO s ∧ enC s m = 0 := by
  unfold enL enC
  rw [encNam_ok ⟨by omega, by omega, by omega, by rw [Int.toNat_natCast, Int.toNat_natCast]; exact h⟩, Int.toNat_natCast]
  exact ⟨rfl, rfl⟩
theorem or_set8 : ∀ (x : Fin 256) (k : Fin 8), x.val / 2 ^ (7 - k.val) % 2 = 0 → x.val ||| 128 / 2 ^ k.val = x.val + 2 ^ (7 - k.val) := by decide +kernel
theorem or_set {x : UInt8} {k : Nat} (hk : k < 8) (h : x.toNat / 2 ^ (7 - k) % 2 = 0) : bits BinOp.or IntKind.u8 (x.toNat : Int) (128 / 2 ^ k) = ((x.toNat + 2 ^ (7 - k) : Nat) : Int) := by
  have hx := x.toNat_lt
  have h1 : (128 : Int) / 2 ^ k = ((128 / 2 ^ k : Nat) : Int) := by simp
  have h2 : 128 / 2 ^ k < 256 := Nat.lt_of_le_of_lt (Nat.div_le_self _ _) (by omega)
  rw [h1, u8_or_nat _ _ hx h2, or_set8 ⟨x.toNat, hx⟩ ⟨k, hk⟩ h]
/-- the octet that one bit more makes -/
def upB (f : Nat → Bool) (i : Nat) : UInt8 := UInt8.ofNat (rb f (i / 8) + 2 ^ (7 - i % 8))
theorem upB_nat {f : Nat → Bool} {i : Nat} (h : f i = false) : (upB f i).toNat = rb f (i / 8) + 2 ^ (7 - i % 8) := by
  unfold upB
  rw [byte_nat (by rw [← rb_with h]; exact rb_lt _ _)]
theorem up_step {f : Nat → Bool} {i K : Nat} (h : f i = false) (hi : i / 8 < K) {x : UInt8} (hx : (bytesF f K)[i / 8]'(by rw [bytesF_len]; exact hi) = x) :
    x.toNat / 2 ^ (7 - i % 8) % 2 = 0 ∧ x.toNat + 2 ^ (7 - i % 8) = (upB f i).toNat ∧ bytesF (withBit f i) K = (bytesF f K).set (i / 8) (upB f i) := by
  have hn : x.toNat = rb f (i / 8) := by rw [← hx, bytesF_nat hi]
  refine ⟨?_, by rw [upB_nat h, hn], bytesF_with h⟩
  have hb := bitL_bytesF (f := f) (k := K) (i := i) (by omega)
  rw [bitL_at (by rw [bytesF_len]; exact hi), h] at hb
  simp only [hx] at hb
  have : ¬ x.toNat / 2 ^ (7 - i % 8) % 2 = 1 := by simpa using hb
  omega
theorem namB_len (S : Nat) : (namB S).length = (namN S + 7) / 8 := by
  unfold namN
  by_cases h : S = 0
  · subst h
    rfl
  · rw [if_neg h, namB_pos h, bytesF_len]
    omega
theorem namU_eq (S : Nat) : 8 * ((namN S + 7) / 8) - namN S = namU S := by
  unfold namN
  by_cases h : S = 0
  · subst h
    rfl
  · rw [if_neg h, namU_pos h]
    omega
theorem namB_bytes (S : Nat) : bytesF (bN S) ((namN S + 7) / 8) = namB S := by
  unfold namN
  by_cases h : S = 0
  · subst h
    rw [if_pos rfl]
    rfl
  · rw [if_neg h, namB_pos h, show (topN S + 1 + 7) / 8 = topN S / 8 + 1 from by omega]
theorem mem_below {S t : Nat} (hS : S < 2 ^ 63) (h : t ∈ memI (S : Int)) : t < namN S := by
  rw [← memI_nam hS] at h
  exact (memTo_mem.1 h).1
theorem memI_nodup (S : Nat) : (memI (S : Int)).Nodup := by
  rw [memI_pos]
  exact memTo_nodup _ _
theorem inL_memI {S : Nat} (hS : S < 2 ^ 63) : inL (memI (S : Int)) = bN S := by
  rw [← memI_nam hS]
  exact inL_mem (namN_hi S)
/-- one round of the loop over the members -/
theorem mem_round {S k K : Nat} (hk : k < (memI (S : Int)).length) {x : UInt8} (hi : (memI (S : Int))[k] / 8 < K)
    (hx : (bytesF (inL ((memI (S : Int)).take k)) K)[(memI (S : Int))[k] / 8]'(by rw [bytesF_len]; exact hi) = x) :
    x.toNat / 2 ^ (7 - (memI (S : Int))[k] % 8) % 2 = 0 ∧ x.toNat + 2 ^ (7 - (memI (S : Int))[k] % 8) = (upB (inL ((memI (S : Int)).take k)) (memI (S : Int))[k]).toNat ∧
      bytesF (inL ((memI (S : Int)).take (k + 1))) K = (bytesF (inL ((memI (S : Int)).take k)) K).set ((memI (S : Int))[k] / 8) (upB (inL ((memI (S : Int)).take k)) (memI (S : Int))[k]) := by
  rw [inL_take hk]
  exact up_step (inL_new (memI_nodup S) hk) hi hx
end Go.Proofs.Ytfflfahhfhnkdaa
