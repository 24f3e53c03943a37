/-
  Contract of Members, of the reference.
-/
import Derived.Test.YtfflfahhfhnkdaaBitMem
namespace Go.Proofs.Ytfflfahhfhnkdaa
open Go.RowKit

set_option maxRecDepth 100000 in
set_option maxHeartbeats 2000000 in
theorem ref_members_any (w : World) (s : Int) (hs : s ≤ 9223372036854775807) :
    Calls Try.prog 27 #[.int .i64 s] w fun e w' => ∃ a c, e = .returned (.slice a (memI s).length c) ∧ OwnK .i64 w' w.heap.size 3 a (memI s).length c (memI s) ∧ Below w.heap.size w w' := by
  obtain ⟨i0, hi, hz0, hz1, hz2⟩ := info_parts info_int
  by_cases h0 : s < 0
  · rw [memI_neg h0]
    have h1 : ¬ 0 < s := by omega
    go_enter Try.func27, Try.ntmps27
    go_wp2_with fail
    go_loopw [0, 3, 4] (fun v o t wr => v = .int .i64 s ∧ o = .slice none 0 0 ∧ t = .int .i64 0 ∧ wr = w) (fun _ _ _ _ => 0)
    case atStart => exact ⟨rfl, rfl, rfl, rfl⟩
    case round =>
      obtain ⟨rfl, rfl, rfl, rfl⟩ := hrel
      go_wp2_with fail
      go_ret
      exact ⟨none, 0, rfl, OwnK.nil_ _ _ _ _, Below.refl _ _⟩
  · obtain ⟨S, rfl⟩ : ∃ S : Nat, s = S := ⟨s.toNat, by omega⟩
    have HS : Hid (S < 2 ^ 63) := by show _ < _; omega
    clear h0 hs
    go_enter Try.func27, Try.ntmps27
    go_wp2_with fail
    go_loopw [0, 3, 4] (fun v o t wr => ∃ j a c, j ≤ 63 ∧ t = .int .i64 (j : Nat) ∧ v = .int .i64 ((S / 2 ^ j : Nat) : Int) ∧ o = .slice a (memTo (bN S) j).length c ∧ OwnK .i64 wr w.heap.size 3 a (memTo (bN S) j).length c (memTo (bN S) j) ∧ Below w.heap.size w wr) (fun v _ _ _ => (intOf v).toNat)
    case atStart => exact ⟨0, none, 0, Nat.zero_le _, rfl, by simp, rfl, OwnK.nil_ _ _ _ _, Below.refl _ _⟩
    case round =>
      obtain ⟨j, a, c, hj, rfl, rfl, rfl, ho, hq⟩ := hrel
      have O := Lib.hid ho
      have Q := Lib.hid hq
      have hsz := hq.size
      have hlen := memTo_len (bN S) j
      have hnext : S / 2 ^ (j + 1) = S / 2 ^ j / 2 := by rw [Nat.pow_succ, Nat.div_div_eq_div_mul]
      have hle : S / 2 ^ j ≤ S := Nat.div_le_self _ _
      have hle2 : S / 2 ^ j ≤ 9223372036854775807 := by have := HS.out; omega
      clear hle
      clear ho hq
      by_cases hlt : 0 < S / 2 ^ j
      · have hj2 : j < 63 := by
          by_cases hx : j < 63
          · exact hx
          · rw [Nat.div_eq_of_lt (Nat.lt_of_lt_of_le HS.out (Nat.pow_le_pow_right (by omega) (by omega)))] at hlt
            omega
        have hodd : bN S j = (S / 2 ^ j % 2 == 1) := rfl
        obtain ⟨D, hD⟩ : ∃ D, S / 2 ^ j = D := ⟨_, rfl⟩
        have HD := Lib.hid hnext
        rw [hD] at hlt HD hodd hle2 ⊢
        have hlt2 : (0 : Int) < D := by omega
        obtain ⟨M, hM'⟩ : ∃ M, (memTo (bN S) j).length = M := ⟨_, rfl⟩
        have HM2 := Lib.hid hM'
        clear hnext hD
        have hodd2 : ∀ b, bN S j = b → (((D : Int) % 2) == 1) = b := by
          intro b hb
          rw [← hb, hodd, Bool.eq_iff_iff, beq_iff_eq, beq_iff_eq]
          omega
        rcases hbit : bN S j with _ | _
        · have HE := Lib.hid (memTo_no hbit)
          have hd2 := hodd2 _ hbit
          have hd3 : ¬ (D : Int) % 2 = 1 := by simpa using hd2
          rw [hM'] at O hlen ⊢
          clear hbit hM' hodd hodd2
          go_wp2_with fail
          go_roundw
          case rel => exact ⟨j + 1, a, c, by omega, by go_num, by rw [HD.out]; go_num, by rw [HE.out, HM2.out], by rw [HE.out, HM2.out]; exact O.out, Q.out⟩
          case measure => simp [intOf]; omega
        · have HE := Lib.hid (memTo_yes hbit)
          have hd2 := hodd2 _ hbit
          have hd3 : (D : Int) % 2 = 1 := by simpa using hd2
          have HL : Hid ((memTo (bN S) (j + 1)).length = M + 1) := by rw [Hid, HE.out, List.length_append, HM2.out]; rfl
          rw [hM'] at O hlen ⊢
          clear hbit hM' hodd hodd2
          go_wp2_with (at_builtin; go_must (refine wpList_appK _ rfl _ _ 40 rfl w.heap.size 3 i0 Try.underlying40 hi hz0 hz1 (by rw [hz2]; omega) a M c _ rfl (O.out.alloc _) _ 1 1 [j] rfl (uk_lit_at rfl rfl rfl (by unfold maxLen; omega)) (by omega) (by simp; omega) ?_))
          intro a3 c3 w3 ho3 hg3
          have Q3 := Lib.hid ((bal Q.out _).trans (OwnK.app_below (O.out.alloc _) hg3 (Nat.le_refl _) (by simp; omega)))
          have O3 := Lib.hid ho3
          clear ho3 hg3
          go_wp2
          go_roundw
          case rel => exact ⟨j + 1, a3, c3, by omega, by go_num, by rw [HD.out]; go_num, by rw [HL.out], by rw [HL.out, HE.out]; exact O3.out, Q3.out⟩
          case measure => simp [intOf]; omega
      · have h0 : S / 2 ^ j = 0 := Nat.eq_zero_of_not_pos hlt
        have hlt2 : S < 2 ^ j := by
          have := Nat.div_add_mod S (2 ^ j)
          rw [h0, Nat.mul_zero, Nat.zero_add] at this
          rw [← this]
          exact Nat.mod_lt _ (Nat.two_pow_pos j)
        have HE := Lib.hid (memI_upto hlt2 (by omega))
        rw [h0]
        clear hnext hle2 hlt hlt2 h0
        go_wp2_with fail
        go_ret
        exact ⟨a, c, by rw [HE.out]; rfl, by rw [HE.out]; exact O.out, Q.out⟩
end Go.Proofs.Ytfflfahhfhnkdaa
