/-
  Plain mathematics: the big-endian digits of a number.
-/
import Derived.Lib.BitFns
namespace Go.Proofs.YtammegdfjgphkaaDoor

/-- the last k digits of n -/
def dg : Nat → Nat → List UInt8
  | 0, _ => []
  | k + 1, n => dg k (n / 256) ++ [UInt8.ofNat n]
theorem dg_len (k : Nat) : ∀ n, (dg k n).length = k := by
  induction k with
  | zero => intro n; rfl
  | succ k ih => intro n; simp [dg, ih]
/-- how many digits -/
def ndig (n : Nat) : Nat := max 1 ((Lib.bitLen n + 7) / 8)
theorem ndig_small {n : Nat} (h : n < 256) : ndig n = 1 := by
  have := Lib.bitLen_le n 8 (by omega) (by omega)
  unfold ndig
  omega
theorem ndig_big {n : Nat} (h : 256 ≤ n) (hn : n < 18446744073709551616) : ndig n = ndig (n / 256) + 1 := by
  have h1 := Lib.bitLen_shift8 n h hn
  have h2 : 1 ≤ Lib.bitLen (n / 256) := by
    have := Lib.bitLen_half (n / 256) (by omega) (by omega)
    omega
  unfold ndig
  omega
def digits (n : Nat) : List UInt8 := dg (ndig n) n
theorem digits_small {n : Nat} (h : n < 256) : digits n = [UInt8.ofNat n] := by
  unfold digits
  rw [ndig_small h]
  rfl
theorem digits_big {n : Nat} (h : 256 ≤ n) (hn : n < 18446744073709551616) : digits n = digits (n / 256) ++ [UInt8.ofNat n] := by
  unfold digits
  rw [ndig_big h hn]
  rfl
theorem ndig_bd {n : Nat} (hn : n < 18446744073709551616) : 1 ≤ ndig n ∧ ndig n ≤ 8 := by
  have := Lib.bitLen_le n 64 (by omega) (by omega)
  unfold ndig
  omega
theorem fill_step (k : Nat) (x : UInt8) (t : List UInt8) : (List.replicate (k + 1) 0 ++ t).set k x = List.replicate k 0 ++ x :: t := by
  rw [List.replicate_succ', List.append_assoc, List.set_append_right _ _ (by simp)]
  simp
theorem digits_len (n : Nat) : (digits n).length = ndig n := dg_len _ _
theorem byte_wrap (m : Nat) : ((m : Int) % 256) = ((UInt8.ofNat m).toNat : Int) := by
  simp
end Go.Proofs.YtammegdfjgphkaaDoor
