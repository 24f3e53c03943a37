/-
  Contracts of Uint.
-/
import Derived.Test.YtkjfblhaondnnaaCur
import Derived.Test.YtkjfblhaondnnaaNumMath
import Derived.Test.YtkjfblhaondnnaaNumRun
import Derived.Deep.Cut
namespace Go.Proofs.Ytkjfblhaondnnaa
open Go.RowKit

set_option maxHeartbeats 400000 in
set_option maxRecDepth 100000 in
theorem uint_any {w : World} {a : Option Addr} {n c : Nat} {l : List UInt8} (hx : Bs w a n c l) :
    Calls Try.prog 20 #[.slice a n c] w fun e w' => e = .returned (.tuple #[.int .u64 (uval l), .bool (uok l)]) ∧ w = w' := by
  have hn : n ≤ 9223372036854775807 := by have := hx.2.1; have := hx.2.2.1; unfold maxLen at this; omega
  have hl := hx.len
  go_enter Try.func20, Try.ntmps20
  generalize hK : (72057594037927936 : Int) = K
  have HK := Lib.hid hK
  clear hK
  go_wp2
  go_loop [4, 9] (fun v i => ∃ k m : Nat, k ≤ n ∧ i = .int .i64 k ∧ v = .int .u64 m ∧ bnum (l.take k) = m ∧ m < two64) (fun _ i => n - (intOf i).toNat)
  case atStart => exact ⟨0, 0, Nat.zero_le _, rfl, rfl, rfl, by decide⟩
  case round =>
    obtain ⟨k, m, hk, rfl, rfl, hm, hm2⟩ := hrel
    have HM := Lib.hid hm
    have HL := Lib.hid hl
    have HM2 := Lib.hid hm2
    clear hm hl hm2
    by_cases hlt : k < n
    · obtain ⟨b, off, hkl, rfl, _, hc⟩ := hx.at_ hlt
      have h0 : (0 : Int) ≤ k := by omega
      have h1 : (k : Int) < n := by omega
      have HX := Lib.hid (bnum_take l hkl)
      generalize l[k] = x at *
      clear hx
      by_cases hb : K ≤ m
      · go_wp2
        go_ret2
        have hbig : two64 ≤ bnum l := two64_of (by have := HL.out; omega) HM.out (by have := HK.out; omega)
        exact ⟨by rw [← uval_ge hbig, ← uok_ge hbig]; rfl, rfl⟩
      · have HB := Lib.hid (show m < 72057594037927936 by have := HK.out; omega)
        go_wp2
        refine ⟨⟨k + 1, m * 256 + x.toNat, by omega, by go_num, by rw [or8 HB.out], by rw [HX.out, HM.out], byte_step HB.out x.toNat_lt⟩, by simp [intOf]; omega⟩
    · go_wp2
      go_ret2
      have e : bnum l = m := by rw [← HM.out, List.take_of_length_le (by have := HL.out; omega)]
      exact ⟨by rw [← uval_lt e HM2.out, ← uok_lt e HM2.out]; rfl, rfl⟩
end Go.Proofs.Ytkjfblhaondnnaa
