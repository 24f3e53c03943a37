/-
  Contract of EncodeNamed, of the program.
-/
import Derived.Test.YtfflfahhfhnkdaaBitNamMath
import Derived.Test.YtfflfahhfhnkdaaAppend
import Derived.Test.YtfflfahhfhnkdaaInfoU8
import Derived.BigRegion
namespace Go.Proofs.Ytfflfahhfhnkdaa
open Go.RowKit

theorem cons_one {l : List UInt8} {d : UInt8} {I : Nat} (h : 1 + I < (d :: l).length) (h2 : I < l.length) : (d :: l)[1 + I]'h = l[I]'h2 := by
  simp only [Nat.add_comm 1 I]
  rfl
theorem cons_set {l : List UInt8} {d y : UInt8} {I : Nat} : (d :: l).set (1 + I) y = d :: l.set I y := by
  rw [Nat.add_comm 1 I]
  rfl
theorem namable_any (m : Int) (w : World) : Calls Try.prog 33 #[.int .i64 m] w fun e w' => e = .returned (.bool (decide (1 ≤ m ∧ m ≤ 32))) ∧ w = w' := by
  by_cases h1 : 1 ≤ m
  · by_cases h2 : m ≤ 32
    · rw [decide_eq_true ⟨h1, h2⟩]
      go_enter Try.func33, Try.ntmps33
      go_wp2_with fail
      go_ret
      exact ⟨rfl, rfl⟩
    · rw [decide_eq_false (by omega)]
      go_enter Try.func33, Try.ntmps33
      go_wp2_with fail
      go_ret
      exact ⟨rfl, rfl⟩
  · rw [decide_eq_false (by omega)]
    go_enter Try.func33, Try.ntmps33
    go_wp2_with fail
    go_ret
    exact ⟨rfl, rfl⟩

set_option maxRecDepth 100000 in
set_option maxHeartbeats 4000000 in
theorem encn_any (w : World) (s m : Int) (hs : s ≤ 9223372036854775807) :
    Calls Try.prog 22 #[.int .i64 s, .int .i64 m] w fun e w' => ∃ a c, e = .returned (.tuple #[.slice a (enL s m).length c, .int .i64 (enC s m)]) ∧ Own w' w.heap.size 5 a (enL s m).length c (enL s m) ∧ Below w.heap.size w w' := by
  have HN := Lib.hid (fun w => namable_any m w)
  by_cases hm : 1 ≤ m ∧ m ≤ 32
  · rw [decide_eq_true hm] at HN
    by_cases hs0 : s < 0
    · rw [(en_no (s := s) (m := m) (by omega)).1, (en_no (s := s) (m := m) (by omega)).2]
      go_enter Try.func22, Try.ntmps22
      go_wp2_with fail
      with_reducible refine (HN.out _).mono ?_
      rintro e w1 ⟨rfl, rfl⟩
      go_wp2_with fail
      go_ret2
      exact ⟨none, 0, rfl, World.ownsRow_nil _ _ _ _, Below.refl _ _⟩
    · obtain ⟨S, rfl⟩ : ∃ S : Nat, s = S := ⟨s.toNat, by omega⟩
      obtain ⟨M, rfl⟩ : ∃ M : Nat, m = M := ⟨m.toNat, by omega⟩
      have hM1 : (M : Int) ≤ 32 := hm.2
      have hM2 : (1 : Int) ≤ M := hm.1
      by_cases hlt : S < 2 ^ M
      · rw [(en_yes (by omega) (by omega) hlt).1, (en_yes (by omega) (by omega) hlt).2]
        have hd0 : (S : Int) / 2 ^ M = 0 := by
          rw [show (S : Int) / 2 ^ M = ((S / 2 ^ M : Nat) : Int) by simp, Nat.div_eq_of_lt hlt]
          rfl
        have hS31 : S < 2 ^ 63 := Nat.lt_of_lt_of_le hlt (Nat.pow_le_pow_right (by omega) (by omega))
        obtain ⟨i0, hi, hz0, hz1, hz2⟩ := info_parts info_u8
        have HL := Lib.hid (fun w => bitsLen_any S (by omega) w)
        have HM := Lib.hid (fun w => members_any w (S : Int) hs)
        have HLEN := Lib.hid (namB_len S)
        have HUN := Lib.hid (namU_eq S)
        have HBY := Lib.hid (namB_bytes S)
        have HIN := Lib.hid (inL_memI hS31)
        have HBL : Hid (∀ t ∈ memI (S : Int), t < namN S) := fun t ht => mem_below hS31 ht
        have hN32 : namN S ≤ 32 := by have := namN_le hlt; omega
        have HU7 := namU_le S
        have HRD : Hid (∀ k K (hk : k < (memI (S : Int)).length) x (hi : (memI (S : Int))[k] / 8 < K) (_ : (bytesF (inL ((memI (S : Int)).take k)) K)[(memI (S : Int))[k] / 8]'(by rw [bytesF_len]; exact hi) = x), x.toNat / 2 ^ (7 - (memI (S : Int))[k] % 8) % 2 = 0 ∧ x.toNat + 2 ^ (7 - (memI (S : Int))[k] % 8) = (upB (inL ((memI (S : Int)).take k)) (memI (S : Int))[k]).toNat ∧
      bytesF (inL ((memI (S : Int)).take (k + 1))) K = (bytesF (inL ((memI (S : Int)).take k)) K).set ((memI (S : Int))[k] / 8) (upB (inL ((memI (S : Int)).take k)) (memI (S : Int))[k])) := fun k K hk x hi hx => mem_round hk hi hx
        have hwr : IntKind.u64.wrap (S : Int) = S := by rw [IntKind.wrap_u64]; omega
        rw [← hwr] at HL
        have hS0 : ¬ (S : Int) < 0 := by omega
        clear hwr hlt hs hS31 hm hs0
        unfold namO
        generalize namB S = B at *
        generalize namU S = U at *
        generalize namN S = N at *
        generalize memI (S : Int) = L at *
        generalize bN S = f at *
        obtain ⟨K, hK⟩ : ∃ K, (N + 7) / 8 = K := ⟨_, rfl⟩
        rw [hK] at HLEN HUN HBY
        have hK4 : K ≤ 4 := by omega
        have hKi : ((N : Int) + 8 - 1) / 8 = K := by omega
        have hUi : (K : Int) * 8 - N = U := by have := HUN.out; omega
        obtain ⟨d, hd⟩ : ∃ d, UInt8.ofNat U = d := ⟨_, rfl⟩
        have hdU : (U : Int) = (d.toNat : Int) := by rw [← hd, byte_nat (by omega)]
        rw [hd]
        have HLB : Hid ((d :: B).length = 1 + K) := by rw [Hid, List.length_cons, HLEN.out]; omega
        rw [HLB.out]
        have hN2 : (N : Int) ≤ 32 := by omega
        have hK2 : (K : Int) ≤ 4 := by omega
        have hU2 : (U : Int) ≤ 7 := by omega
        have hNK : N ≤ 8 * K := by omega
        clear HUN hK hd
        obtain ⟨H, hH⟩ : ∃ H, w.heap.size = H := ⟨_, rfl⟩
        have hb0 := Lib.hid (Below.refl w.heap.size w)
        go_enter Try.func22, Try.ntmps22
        go_wp2_with fail
        with_reducible refine (HN.out _).mono ?_
        rintro e w1 ⟨rfl, rfl⟩
        go_wp2_with fail
        with_reducible refine (HL.out _).mono ?_
        rintro e w1 ⟨rfl, rfl⟩
        go_wp2_with (at_make; go_must (refine wpList_make_full _ rfl _ _ 22 rfl w.heap.size 5 i0 (.int .u8 0) 1 Try.underlying22 hi hz0 hz1 .i64 .i64 _ _ (1 + K) rfl rfl (by omega) (by omega) (by rw [hz2]; omega) (by unfold maxLen; omega) (Nat.le_refl _) ?_); intro w1 ho1 hg1; rw [made_zeros, hH] at ho1; have HO : Hid (Own w1 H 5 (some ⟨H, 0, none⟩) (1 + K) (1 + K) (List.replicate (1 + K) 0)) := ho1; have hc0 : w1.cell? ⟨H, 0, none⟩ = some (.int .u8 0) := (by have := HO.out.cell (j := 0) (by simp; omega); simpa using this); have hf0 := HO.out.frozen 0; have HB1 := Lib.hid (hb0.out.grown hg1 (Nat.le_refl _) (fun _ h => by cases h)); clear ho1 hg1)
        have O2 : Hid (Own (w1.setCell ⟨H, 0, none⟩ (.int .u8 (d.toNat : Int))) H 5 (some ⟨H, 0, none⟩) (1 + K) (1 + K) (d :: bytesF (inL (L.take 0)) K)) := by
          have h := HO.out.stored 0 d
          rw [Nat.add_comm 1 K, List.replicate_succ, List.set_cons_zero, ← Nat.add_comm 1 K] at h
          rw [Hid, List.take_zero, inL_nil, bytesF_none]
          exact h
        have B2 : Hid (Below H w (w1.setCell ⟨H, 0, none⟩ (.int .u8 (d.toNat : Int)))) := by
          have h := HB1.out.setCell (p := ⟨H, 0, none⟩) (Nat.le_of_eq hH) (.int .u8 (d.toNat : Int))
          rw [hH] at h
          exact h
        clear hc0 hf0 HO HB1
        generalize w1.setCell ⟨H, 0, none⟩ (.int .u8 (d.toNat : Int)) = w2 at *
        with_reducible refine (HM.out _).mono ?_
        rintro e w3 ⟨a3, c3, rfl, ho3, q3⟩
        have O3 := Lib.hid (O2.out.below q3)
        have B3 := Lib.hid (B2.out.trans (q3.mono (by have := B2.out.size; omega)))
        have hHB : H < w2.heap.size := (O2.out.base _ rfl).2
        have M3 := Lib.hid ho3
        obtain ⟨G, hG⟩ : ∃ G, w2.heap.size = G := ⟨_, rfl⟩
        rw [hG] at M3 hHB
        have MC := Lib.hid ho3.cap
        obtain ⟨Z, hZ⟩ : ∃ Z, L.length = Z := ⟨_, rfl⟩
        have HZ := Lib.hid hZ
        have hZ2 : Z ≤ 9223372036854775807 := by have := MC.out; unfold maxLen at this; omega
        rw [hZ] at M3 ⊢
        clear ho3 q3 O2 B2 hZ MC
        have hZ3 : (Z : Int) ≤ 9223372036854775807 := by omega
        clear hZ2
        go_wp2_with fail
        go_loopw [44] (fun t wr => ∃ k : Nat, k ≤ Z ∧ t = .int .i64 k ∧ Own wr H 5 (some ⟨H, 0, none⟩) (1 + K) (1 + K) (d :: bytesF (inL (L.take k)) K) ∧ OwnK .i64 wr G 3 a3 Z c3 L ∧ Below H w wr) (fun t _ => Z - (intOf t).toNat)
        case atStart => exact ⟨0, Nat.zero_le _, rfl, O3.out, M3.out, B3.out⟩
        case round =>
          obtain ⟨k, hk, rfl, ho, hm, hq⟩ := hrel
          have O4 := Lib.hid ho
          have M4 := Lib.hid hm
          have B4 := Lib.hid hq
          clear ho hm hq
          have hk0 : (0 : Int) ≤ k := by omega
          by_cases hlt : k < Z
          · have hkL : k < L.length := by have := HZ.out; omega
            obtain ⟨g, ha3, hg1, hg2⟩ := M4.out.pos (by omega)
            subst ha3
            have hcm := M4.out.cell hkL
            have hlt2 : (k : Int) < Z := by omega
            have ht := HBL.out L[k] (List.getElem_mem hkL)
            have HR := Lib.hid (HRD.out k K hkL)
            obtain ⟨T, hT⟩ : ∃ T, L[k] = T := ⟨_, rfl⟩
            rw [hT] at hcm ht
            simp only [Hid, hT] at HR
            have hI : T / 8 < K := by omega
            obtain ⟨x, hx⟩ : ∃ x, (bytesF (inL (L.take k)) K)[T / 8]'(by rw [bytesF_len]; exact hI) = x := ⟨_, rfl⟩
            obtain ⟨hr1, hr2, hr3⟩ := HR x hI hx
            obtain ⟨y, hy⟩ : ∃ y, upB (inL (L.take k)) T = y := ⟨_, rfl⟩
            rw [hy] at hr2 hr3
            have hor := or_set (k := T % 8) (Nat.mod_lt _ (by omega)) hr1
            rw [hr2] at hor
            have HR3 := Lib.hid hr3
            obtain ⟨I, hI'⟩ : ∃ I, T / 8 = I := ⟨_, rfl⟩
            obtain ⟨J, hJ'⟩ : ∃ J, T % 8 = J := ⟨_, rfl⟩
            have h81 : (T : Int) / 8 = (I : Int) := by omega
            have h82 : (T : Int) % 8 = (J : Int) := by omega
            have hJ8 : (J : Int) < 8 := by omega
            have hJ9 : J < 8 := by omega
            have hxI : ∀ h, (bytesF (inL (L.take k)) K)[I]'h = x := by
              subst hI'
              exact fun _ => hx
            have hc8 := O4.out.cell (j := 1 + I) (by rw [List.length_cons, bytesF_len]; omega)
            have hc9 : wr.cell? ⟨H, 1 + I, none⟩ = some (.int .u8 (x.toNat : Int)) := by
              rw [hc8, cons_one _ (by rw [bytesF_len]; omega), hxI]
            have hf8 := O4.out.frozen (1 + I)
            have hl8 := (O4.out.base _ rfl).2
            have OF := Lib.hid (O4.out.stored (1 + I) y)
            have hxb := byte_bd x
            have hyb := byte_bd y
            simp only [hJ'] at hor
            rw [hI'] at hI HR3
            have hI2 : (I : Int) < K := by omega
            clear hx hxI hr1 hr2 hr3 HR hc8 hI' hJ' hT hy
            go_wp2_with fail
            go_region
            have MF : Hid (OwnK .i64 (wr.setCell ⟨H, 1 + I, none⟩ (.int .u8 (y.toNat : Int))) G 3 (some ⟨g, 0, none⟩) Z c3 L) := M4.out.keep (fun z hz => by
              injection hz with hz
              subst hz
              exact Below.heap_setCell wr ⟨H, 1 + I, none⟩ _ g (by show g ≠ H; omega))
            have BF : Hid (Below H w (wr.setCell ⟨H, 1 + I, none⟩ (.int .u8 (y.toNat : Int)))) := B4.out.setCell (Nat.le_refl _) _
            rw [cons_set, ← HR3.out] at OF
            go_wp2
            exact ⟨⟨k + 1, by omega, by go_num, OF.out, MF.out, BF.out.drew⟩, by simp [intOf]; omega⟩
          · obtain rfl : k = Z := by omega
            have hlt2 : ¬ (k : Int) < k := by omega
            have e : L.take k = L := List.take_of_length_le (by have := HZ.out; omega)
            rw [e, HIN.out, HBY.out] at O4
            go_wp2_with fail
            go_ret2
            exact ⟨_, _, rfl, O4.out, B4.out⟩
      · rw [(en_no (s := S) (m := M) (by rw [Int.toNat_natCast, Int.toNat_natCast]; omega)).1, (en_no (s := S) (m := M) (by rw [Int.toNat_natCast, Int.toNat_natCast]; omega)).2]
        have hd0 : ((S : Int) / 2 ^ M != 0) = true := by
          rw [show (S : Int) / 2 ^ M = ((S / 2 ^ M : Nat) : Int) by simp]
          have := Nat.div_pos (Nat.le_of_not_lt hlt) (Nat.two_pow_pos M)
          generalize S / 2 ^ M = D at *
          simp
          omega
        clear hs hlt hs0 hm
        have hS0 : ¬ (S : Int) < 0 := by omega
        go_enter Try.func22, Try.ntmps22
        go_wp2_with fail
        with_reducible refine (HN.out _).mono ?_
        rintro e w1 ⟨rfl, rfl⟩
        go_wp2_with fail
        go_ret2
        exact ⟨none, 0, rfl, World.ownsRow_nil _ _ _ _, Below.refl _ _⟩
  · rw [decide_eq_false hm] at HN
    rw [(en_no (s := s) (m := m) (by omega)).1, (en_no (s := s) (m := m) (by omega)).2]
    go_enter Try.func22, Try.ntmps22
    go_wp2_with fail
    with_reducible refine (HN.out _).mono ?_
    rintro e w1 ⟨rfl, rfl⟩
    go_wp2_with fail
    go_ret2
    exact ⟨none, 0, rfl, World.ownsRow_nil _ _ _ _, Below.refl _ _⟩
end Go.Proofs.Ytfflfahhfhnkdaa
