/-
  Runs of single operations on 64-bit numbers, laid ahead of the walks.
-/
import Derived.Laws.BitsAllLaws
import Derived.Laws.Shifts
import Derived.WalkKit
import Derived.Test.YtgccjdhkpgmnoaaNumMath
namespace Go.Proofs.Ytgccjdhkpgmnoaa

theorem u64_wrap {m : Nat} (h : m < 18446744073709551616) : IntKind.u64.wrap (m : Int) = m := by
  rw [IntKind.wrap_u64]
  omega
/-- n << 8 | x -/
theorem or8 {m : Nat} {x : UInt8} (h : m < 72057594037927936) : bits BinOp.or IntKind.u64 (IntKind.u64.wrap ((m : Int) * 256)) (IntKind.u64.wrap (x.toNat : Int)) = ((m * 256 + x.toNat : Nat) : Int) := by
  have hx := x.toNat_lt
  have e1 : IntKind.u64.wrap ((m : Int) * 256) = ((m * 256 : Nat) : Int) := by
    rw [IntKind.wrap_u64]
    omega
  have e : m * 256 ||| x.toNat = m * 256 + x.toNat := by
    rw [show m * 256 = 2 ^ 8 * m from by omega, Nat.two_pow_add_eq_or_of_lt (by omega)]
  rw [e1, u64_wrap (by omega), u64_or_nat (m * 256) x.toNat (by omega) (by omega), e]
/-- n * 256 + x -/
theorem mul8 {m : Nat} {x : UInt8} (h : m < 72057594037927936) : IntKind.u64.wrap (IntKind.u64.wrap ((m : Int) * 256) + IntKind.u64.wrap (x.toNat : Int)) = ((m * 256 + x.toNat : Nat) : Int) := by
  have hx := x.toNat_lt
  rw [IntKind.wrap_u64, IntKind.wrap_u64, IntKind.wrap_u64]
  omega
end Go.Proofs.Ytgccjdhkpgmnoaa
