/-
  The walk of the law CursorNumbers.
-/
import Derived.Test.YtkjfblhaondnnaaAwake
import Derived.Test.YtkjfblhaondnnaaNumRef
import Derived.Test.YtkjfblhaondnnaaMinRef
namespace Go.Proofs.Ytkjfblhaondnnaa.cursorNumbers
open Go.RowKit

theorem bnum_digits (n : Nat) : n < 18446744073709551616 → bnum (digits n) = n := by
  induction n using Nat.strongRecOn with
  | _ n ih =>
  intro hn
  by_cases h : n < 256
  · rw [digits_small h, show [UInt8.ofNat n] = [] ++ [UInt8.ofNat n] from rfl, bnum_snoc, bnum_nil]
    simp
    omega
  · rw [digits_big (by omega) hn, bnum_snoc, ih (n / 256) (by omega) (by omega)]
    simp
    omega
theorem uval_digits {n : Nat} (h : n < 18446744073709551616) : uval (digits n) = n := (uval_lt (bnum_digits n h) h).symm
theorem uok_digits {n : Nat} (h : n < 18446744073709551616) : uok (digits n) = true := (uok_lt (bnum_digits n h) h).symm

set_option maxHeartbeats 1000000 in
theorem walk {w : World} {a0 : Option Addr} {n0 c0 : Nat} {l0 : List UInt8} {v : Int} (b0 : Bs w a0 n0 c0 l0) (wv : (Lit.int .u64 v).wf = true) :
    Calls Try.prog 6 #[.slice a0 n0 c0, .int .u64 v] w fun e w' => e = .returned (.bool true) ∧ Below w.heap.size w w' := by
  have hv := bounds_u64 wv
  obtain ⟨n, rfl⟩ : ∃ n : Nat, v = n := ⟨v.toNat, by omega⟩
  have hn : Hid (n < 18446744073709551616) := by show _ < _; omega
  clear hv wv
  have HA := Lib.hid (awake_any)
  have HB0 := Lib.hid b0
  clear b0
  by_cases h0 : n0 ≤ 2000
  · go_enter Try.func6, Try.ntmps6
    go_wp2_with (first | (go_at_call 8; go_must (refine (HA.out _).mono ?_); rintro e w1 ⟨rfl, q1⟩) | fail)
    have q := Lib.hid q1
    have B0 := Lib.hid (HB0.out.below q1)
    clear q1 HB0
    refine (uint_any B0.out).mono ?_
    rintro e w2 ⟨rfl, rfl⟩
    go_wp2_with fail
    refine (ref_uint_any B0.out).mono ?_
    rintro e w2 ⟨rfl, rfl⟩
    clear B0
    generalize uval l0 = x
    generalize uok l0 = y
    go_wp2_with fail
    refine (minimal_any hn _).mono ?_
    rintro e w2 ⟨a, c, rfl, ho, q1⟩
    have HO := Lib.hid ho
    have q' := Lib.hid (bthen q.out q1)
    clear q1 ho q
    go_wp2_with fail
    refine (uint_any HO.out.bs).mono ?_
    rintro e w3 ⟨rfl, rfl⟩
    rw [uval_digits hn.out, uok_digits hn.out]
    go_wp2_with fail
    refine (ref_minimal_any n _ _ rfl hn).mono ?_
    rintro e w3 ⟨a', c', rfl, ho, q1⟩
    have q := Lib.hid (bthen q'.out q1)
    have B1 := Lib.hid (HO.out.bs.below q1)
    have B2 := Lib.hid ho.bs
    clear q1 ho q'
    go_wp2_with fail
    refine (bytes_any B1.out B2.out).mono ?_
    rintro e w4 ⟨rfl, rfl⟩
    rw [eqB_self]
    go_wp2_with fail
    go_ret
    exact ⟨rfl, q.out⟩
  · go_enter Try.func6, Try.ntmps6
    go_wp2_with (first | (go_at_call 8; go_must (refine (HA.out _).mono ?_); rintro e w1 ⟨rfl, q1⟩) | fail)
    all_goals
      go_ret
      exact ⟨rfl, bthen (by assumption) (by assumption)⟩
end Go.Proofs.Ytkjfblhaondnnaa.cursorNumbers
