/-
  Contract of the comparison Ints of the base, of equal values (BitSame's, without a bit string).
-/
import Derived.Test.YtkmpmphabohkkaaDoorBytesEq
import Derived.Test.YtkmpmphabohkkaaDoorRow
namespace Go.Proofs.YtkmpmphabohkkaaDoor
open Go.RowKit

set_option maxRecDepth 100000 in
set_option maxHeartbeats 2000000 in
theorem ints7_self {w : World} {a b : Option Addr} {n c d : Nat} {L : List Nat} (hx : Uk .i64 w a n c L) (hy : Uk .i64 w b n d L) :
    Calls Tryd.prog 22 #[.slice a n c, .slice b n d] w fun e w' => e = .returned (.bool true) ∧ Below w.heap.size w w' := by
  have HX := Lib.hid hx
  have HY := Lib.hid hy
  have hn : n ≤ 9223372036854775807 := by have := hx.2.1; have := hx.2.2.1; unfold maxLen at this; omega
  have hn2 : (n : Int) ≤ 9223372036854775807 := by omega
  clear hx hy hn
  go_enter Tryd.func22, Tryd.ntmps22
  go_wp2_with fail
  go_loopw [5] (fun i wr => ∃ k q : Nat, k ≤ n ∧ i = .int .i64 k ∧ wr = w.drewN q) (fun i _ => n - (intOf i).toNat)
  case atStart => exact ⟨0, 0, Nat.zero_le _, rfl, rfl⟩
  case round =>
    obtain ⟨k, q, hk, rfl, rfl⟩ := hrel
    have hk0 : (0 : Int) ≤ k := by omega
    by_cases hlt : k < n
    · have hlt2 : (k : Int) < n := by omega
      obtain ⟨b1, o1, hk1, rfl, hb1, hc1⟩ := HX.out.at_ hlt
      obtain ⟨b2, o2, hk2, rfl, hb2, hc2⟩ := HY.out.at_ hlt
      obtain ⟨x, hxx⟩ : ∃ x, L[k]'hk1 = x := ⟨_, rfl⟩
      rw [hxx] at hc1 hc2
      clear hxx hk1 hk2
      go_wp2_with fail
      go_quiet (fail)
      go_wp2
      go_roundw
      case rel => exact ⟨k + 1, _, by omega, by go_num, rfl⟩
      case measure => simp [intOf]; omega
    · have hlt2 : ¬ (k : Int) < n := by omega
      go_wp2_with fail
      go_ret
      exact ⟨rfl, below_drewN (Below.refl _ _) _⟩
end Go.Proofs.YtkmpmphabohkkaaDoor
