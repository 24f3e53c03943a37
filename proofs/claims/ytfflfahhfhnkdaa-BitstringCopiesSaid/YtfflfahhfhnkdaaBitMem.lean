/-
  Contracts of Members, of the program (with its closure) and of the reference; of bits.Len.
-/
import Derived.Test.YtfflfahhfhnkdaaBitValid
import Derived.Test.YtfflfahhfhnkdaaRowApp
import Derived.Test.YtfflfahhfhnkdaaShelf
import Derived.LoopTactic
import Derived.Laws.BitsAllLaws
import Derived.Laws.Shifts
import Derived.Lib.ItoaNum
namespace Go.Proofs.Ytfflfahhfhnkdaa
open Go.RowKit

theorem info_int : (Try.prog.info? 3).map (fun i => (i.zero, i.size, i.bytes)) = some (some (.int .i64 0), 1, 8) := by kernel_rfl

theorem bitLen_nam {n : Nat} (h : n < 2 ^ 64) : Lib.bitLen n = namN n := by
  unfold namN Lib.bitLen
  split
  · rename_i h0
    subst h0
    exact Go.Lib.bitLenAux_zero _
  · rename_i h0
    obtain ⟨h1, h2, h3⟩ := Go.Lib.bitLenAux_bounds 64 n h h0
    obtain ⟨t, ht⟩ : ∃ t, Lib.bitLenAux 64 n = t + 1 := ⟨Lib.bitLenAux 64 n - 1, by omega⟩
    rw [ht] at h2 h3 ⊢
    rw [top_is h2 h3, Nat.add_sub_cancel]
theorem bitsLen_any (n : Nat) (h : n < 18446744073709551616) (w : World) :
    Calls Try.prog 34 #[.int .u64 n] w fun e w' => e = .returned (.int .i64 (namN n)) ∧ w = w' := by
  have HL := Lib.hid (fun w => (Try.bits_Len64 n w (by omega) (by omega)).mono (R' := fun e w' => e = .returned (.int .i64 (Lib.bitLen (n : Int).toNat)) ∧ w = w') fun _ _ h => ⟨h.1, h.2.symm⟩)
  have e : Lib.bitLen (n : Int).toNat = namN n := by rw [Int.toNat_natCast]; exact bitLen_nam (by omega)
  rw [e] at HL
  go_enter Try.func34, Try.ntmps34
  go_wp2_with fail
  with_reducible refine (HL.out _).mono ?_
  rintro e w1 ⟨rfl, rfl⟩
  go_wp2_with fail
  go_ret
  exact ⟨rfl, rfl⟩

theorem i64_and_nat (a b : Nat) (ha : a < 9223372036854775808) (hb : b < 9223372036854775808) : bits .and .i64 (a : Int) (b : Int) = ((a &&& b : Nat) : Int) := by
  have hx : a &&& b < 2 ^ 63 := Nat.and_lt_two_pow _ (by omega)
  show IntKind.i64.wrap ((BitVec.ofInt 64 (a : Int) &&& BitVec.ofInt 64 (b : Int)).toNat : Int) = _
  rw [BitVec.toNat_and, ofInt_u64 a (by omega), ofInt_u64 b (by omega), IntKind.wrap_i64]
  omega
theorem i64_or_nat (a b : Nat) (ha : a < 9223372036854775808) (hb : b < 9223372036854775808) : bits .or .i64 (a : Int) (b : Int) = ((a ||| b : Nat) : Int) := by
  have hx : a ||| b < 2 ^ 63 := Nat.or_lt_two_pow (by omega) (by omega)
  show IntKind.i64.wrap ((BitVec.ofInt 64 (a : Int) ||| BitVec.ofInt 64 (b : Int)).toNat : Int) = _
  rw [BitVec.toNat_or, ofInt_u64 a (by omega), ofInt_u64 b (by omega), IntKind.wrap_i64]
  omega
theorem and_bN {S i : Nat} (hS : S < 9223372036854775808) : (bits BinOp.and IntKind.i64 ((S : Int) / 2 ^ i) 1 != 0) = bN S i := by
  have h1 : (S : Int) / 2 ^ i = ((S / 2 ^ i : Nat) : Int) := by simp
  have h2 : S / 2 ^ i ≤ S := Nat.div_le_self _ _
  rw [h1, show (1 : Int) = ((1 : Nat) : Int) from rfl, i64_and_nat _ _ (by omega) (by omega), Nat.and_one_is_mod]
  unfold bN
  rw [Bool.eq_iff_iff]
  simp only [bne_iff_ne, ne_eq, beq_iff_eq]
  omega

theorem isMem_any {w : World} {g S i : Nat} (hb : Blk w g 3 #[.int .i64 S]) (hS : S < 9223372036854775808) (hi : i < 64) :
    Calls Try.prog 35 #[.int .i64 i, .pointer (some ⟨g, 0, none⟩)] w fun e w' => e = .returned (.bool (bN S i)) ∧ w = w' := by
  have z0 := hb.cell 0
  have zl := hb.lt
  simp only [List.getElem?_toArray, List.getElem?_cons_zero] at z0
  have hi2 : (i : Int) < 64 := by omega
  go_enter Try.func35, Try.ntmps35
  go_wp2_with fail
  go_ret
  exact ⟨ret_bool (and_bN hS), rfl⟩
theorem namN_64 {n : Nat} (h : n < 2 ^ 64) : namN n ≤ 64 := namN_le h
theorem memI_nam {n : Nat} (h : n < 2 ^ 63) : memTo (bN n) (namN n) = memI (n : Int) := by
  rw [memI_upto (namN_hi n) (by have := namN_le h; omega)]

set_option maxRecDepth 100000 in
set_option maxHeartbeats 2000000 in
theorem members_any (w : World) (s : Int) (hs : s ≤ 9223372036854775807) :
    Calls Try.prog 25 #[.int .i64 s] w fun e w' => ∃ a c, e = .returned (.slice a (memI s).length c) ∧ OwnK .i64 w' w.heap.size 3 a (memI s).length c (memI s) ∧ Below w.heap.size w w' := by
  have hmf : ∀ (fn : Fn) (first cap : Array Value) (w : World), (Instr.makeFunc fn first cap).run Try.prog w = .ok (.func fn first cap) w := fun _ _ _ _ => rfl
  obtain ⟨i0, hi, hz0, hz1, hz2⟩ := info_parts info_int
  by_cases h0 : s < 0
  · rw [memI_neg h0]
    go_enter Try.func25, Try.ntmps25
    go_wp2_with fail
    go_ret
    exact ⟨none, 0, rfl, OwnK.nil_ _ _ _ _, bal (Below.refl _ _) _⟩
  · obtain ⟨S, rfl⟩ : ∃ S : Nat, s = S := ⟨s.toNat, by omega⟩
    have hS : S < 9223372036854775808 := by omega
    have HM := Lib.hid (memI_nam (n := S) (by omega))
    have hN := namN_le (n := S) (m := 63) (by omega)
    have HB := Lib.hid (fun w => bitsLen_any S (by omega) w)
    have HI := Lib.hid (fun (w : World) g i (hb : Blk w g 3 #[.int .i64 S]) (hi : i < 64) => isMem_any hb hS hi)
    obtain ⟨N, hN'⟩ : ∃ N, namN S = N := ⟨_, rfl⟩
    rw [hN'] at hN HB HM
    have hN2 : (N : Int) ≤ 63 := by omega
    rw [← HM.out]
    clear hN' h0
    obtain ⟨H, hH⟩ : ∃ H, w.heap.size = H := ⟨_, rfl⟩
    rw [hH]
    have hmod : IntKind.u64.wrap (S : Int) = S := by rw [IntKind.wrap_u64]; omega
    rw [← hmod] at HB
    clear hs hS hmod
    go_enter Try.func25, Try.ntmps25
    go_wp2_with fail
    with_reducible refine (HB.out _).mono ?_
    rintro e w1 ⟨rfl, rfl⟩
    go_wp2_with fail
    go_loopw [4, 12] (fun v t wr => ∃ j a c, j ≤ N ∧ t = .int .i64 (j : Nat) ∧ v = .slice a (memTo (bN S) j).length c ∧ OwnK .i64 wr (H + 1) 3 a (memTo (bN S) j).length c (memTo (bN S) j) ∧ Blk wr H 3 #[.int .i64 S] ∧ Below H w wr) (fun _ t _ => N - (intOf t).toNat)
    case atStart => exact ⟨0, none, 0, Nat.zero_le _, rfl, rfl, OwnK.nil_ _ _ _ _, by rw [← hH]; exact Blk.new _ _ _, by rw [← hH]; exact bal (Below.refl _ _) _⟩
    case round =>
      obtain ⟨j, a, c, hj, rfl, rfl, ho, hb, hq⟩ := hrel
      have O := Lib.hid ho
      have B := Lib.hid hb
      have Q := Lib.hid hq
      have hsz := hb.lt
      clear ho hb hq
      by_cases hlt : j < N
      · have hlt2 : (j : Int) < N := by omega
        have HC := Lib.hid (HI.out _ _ j B.out (by omega))
        have hlen := memTo_len (bN S) j
        rcases hbit : bN S j with _ | _
        · have HE := Lib.hid (memTo_no hbit)
          rw [hbit] at HC
          clear hbit
          go_wp2_with fail
          with_reducible refine HC.out.mono ?_
          rintro e w2 ⟨rfl, rfl⟩
          go_wp2
          go_roundw
          case rel => exact ⟨j + 1, a, c, by omega, by go_num, by rw [HE.out], by rw [HE.out]; exact O.out, B.out, Q.out⟩
          case measure => simp [intOf]; omega
        · have HE := Lib.hid (memTo_yes hbit)
          have HL : Hid ((memTo (bN S) (j + 1)).length = (memTo (bN S) j).length + 1) := by rw [Hid, HE.out, List.length_append]; rfl
          rw [hbit] at HC
          clear hbit
          obtain ⟨M, hM'⟩ : ∃ M, (memTo (bN S) j).length = M := ⟨_, rfl⟩
          have HM2 := Lib.hid hM'
          rw [hM'] at O hlen HL ⊢
          clear hM'
          go_wp2_with fail
          with_reducible refine HC.out.mono ?_
          rintro e w2 ⟨rfl, rfl⟩
          go_wp2_with (at_builtin; go_must (refine wpList_appK _ rfl _ _ 40 rfl (H + 1) 3 i0 Try.underlying40 hi hz0 hz1 (by rw [hz2]; omega) a M c _ rfl (O.out.alloc _) _ 1 1 [j] rfl (uk_lit_at rfl rfl rfl (by unfold maxLen; omega)) (by omega) (by simp; omega) ?_))
          intro a3 c3 w3 ho3 hg3
          have Q1 := Lib.hid (OwnK.app_below (O.out.alloc _) hg3 (Nat.le_refl _) (by simp; omega))
          have Q3 := Lib.hid ((Q.out.alloc (by omega) _).trans (Q1.out.mono (Nat.le_succ H)))
          have B3 := Lib.hid ((B.out.alloc _).below Q1.out (Nat.lt_succ_self _))
          have O3 := Lib.hid ho3
          clear ho3 hg3 Q1
          go_wp2
          go_roundw
          case rel => exact ⟨j + 1, a3, c3, by omega, by go_num, by rw [HL.out], by rw [HL.out, HE.out]; exact O3.out, B3.out, Q3.out⟩
          case measure => simp [intOf]; omega
      · obtain rfl : j = N := by omega
        have hlt2 : ¬ (j : Int) < j := by omega
        go_wp2_with fail
        go_ret
        exact ⟨a, c, rfl, O.out.more (Nat.le_succ _), Q.out⟩
end Go.Proofs.Ytfflfahhfhnkdaa
