/-
  Contract of the program's Fold: the walk.
-/
import Derived.Test.YtkmpmphabohkkaaDoorChFoldP
namespace Go.Proofs.YtkmpmphabohkkaaDoor
open Go.RowKit

set_option maxRecDepth 100000 in
theorem small_any (x : UInt8) (w : World) :
    Calls Tryd.prog 38 #[.int .u8 x.toNat] w fun e w' => e = .returned (.int .u8 (lowB x).toNat) ∧ w' = w := by
  have hxb := byte_bd x
  by_cases hup : 65 ≤ x.toNat ∧ x.toNat < 91
  · have hu1 : (65 : Int) ≤ x.toNat := by omega
    have hu2 : (x.toNat : Int) ≤ 90 := by omega
    have hy := low_up hup
    have hy1 : (x.toNat : Int) - 65 + 97 = ((lowB x).toNat : Int) := by omega
    have hyb := byte_bd (lowB x)
    have w1 : IntKind.u8.wrap ((x.toNat : Int) - 65) = (x.toNat : Int) - 65 := by rw [IntKind.wrap_u8']; omega
    have w2 : IntKind.u8.wrap ((x.toNat : Int) - 65 + 97) = ((lowB x).toNat : Int) := by rw [IntKind.wrap_u8']; omega
    generalize lowB x = y at *
    clear hup hy
    go_enter Tryd.func38, Tryd.ntmps38
    go_wp2_with fail
    go_ret
    exact ⟨by first | rfl | (rw [← hy1]), rfl⟩
  · rw [low_no hup]
    by_cases h1 : 65 ≤ x.toNat
    · have hu1 : (65 : Int) ≤ x.toNat := by omega
      have hu2 : ¬ (x.toNat : Int) ≤ 90 := by omega
      go_enter Tryd.func38, Tryd.ntmps38
      go_wp2_with fail
      go_ret
      exact ⟨rfl, rfl⟩
    · have hu1 : ¬ (65 : Int) ≤ x.toNat := by omega
      go_enter Tryd.func38, Tryd.ntmps38
      go_wp2_with fail
      go_ret
      exact ⟨rfl, rfl⟩

set_option maxRecDepth 100000 in
set_option maxHeartbeats 2000000 in
theorem fold7_any (s : List UInt8) (hz : s.length ≤ 10000) (w : World) :
    Calls Tryd.prog 20 #[.string ⟨s.toArray⟩] w fun e w' => e = .returned (.string ⟨(foldT s).toArray⟩) ∧ Below w.heap.size w w' := by
  have HTR := Lib.hid (Tryd.strings_Trim_one ⟨s.toArray⟩ 32 (by decide) w (by show s.length ≤ _; omega))
  have hts : (⟨s.toArray⟩ : ByteArray).data.toList = s := rfl
  rw [hts] at HTR
  have h0 := fun h => trim_first (s := s) h
  have hE := Lib.hid (acc_end (s := s))
  have hTL : (Lib.trimB s 32).length ≤ 10000 := by
    have := trim_len s
    omega
  generalize Lib.trimB s 32 = T at *
  generalize foldT s = R at *
  obtain ⟨n, hn⟩ : ∃ n, T.length = n := ⟨_, rfl⟩
  have HN := Lib.hid hn
  have hs : (⟨T.toArray⟩ : ByteArray).size = n := by rw [← hn]; rfl
  rw [hn] at hTL hE
  have hn2 : (n : Int) ≤ 10000 := by omega
  have HP := Lib.hid (fun j (hj : j < T.length) hx => acc_plain h0 hj hx)
  have HK := Lib.hid (fun i (hj : i + 1 < T.length) hx hp => acc_skip h0 hj hx hp)
  have HS := Lib.hid (fun i (hj : i + 1 < T.length) hx hp => acc_space h0 hj hx hp)
  have H0 := Lib.hid h0
  have HAL := Lib.hid (fun j => acc_len T j)
  clear h0 hn hz hts
  go_enter Tryd.func20, Tryd.ntmps20
  go_wp2_with fail
  with_reducible refine HTR.out.mono ?_
  rintro e w1 ⟨rfl, h1⟩
  have Q1 : Hid (Below w.heap.size w w1) := by
    rcases h1 with rfl | rfl
    · exact Below.refl _ _
    · exact (Below.refl _ w).drew
  clear h1 HTR
  have B1 := Lib.hid (bld_new w1 w.heap.size Q1.out.size)
  have Q2 := Lib.hid (bal Q1.out (.cells #[.pointer none, .slice none 0 0] 63))
  obtain ⟨B, hB⟩ : ∃ B, w1.heap.size = B := ⟨_, rfl⟩
  rw [hB] at B1
  go_wp2_with fail
  generalize w1.alloc (.cells #[.pointer none, .slice none 0 0] 63) = w2 at *
  clear hB
  go_loopw [9] (fun i wr => ∃ j : Nat, j ≤ n ∧ i = .int .i64 j ∧ Bld wr w.heap.size B (accP T j) ∧ Below w.heap.size w wr) (fun i _ => (n - intOf i).toNat)
  case atStart => exact ⟨0, Nat.zero_le _, rfl, B1.out, Q2.out⟩
  case round =>
    obtain ⟨j, hj, rfl, hb, hq⟩ := hrel
    have BB := Lib.hid hb
    have Q := Lib.hid hq
    have hsz := hq.size
    clear hb hq
    have hj0 : (0 : Int) ≤ j := by omega
    by_cases hlt : j < n
    · have hlt2 : (j : Int) < n := by omega
      have hjL : j < T.length := by have := HN.out; omega
      have hal := HAL.out j
      rw [HN.out] at hal
      obtain ⟨x, hx2⟩ : ∃ x, T[j] = x := ⟨_, rfl⟩
      have hx : (⟨T.toArray⟩ : ByteArray)[j]'(by rw [hs]; exact hlt) = x := hx2
      have hxb := byte_bd x
      by_cases h32 : x = 32
      · match j, hj, hlt, hjL, hx2, hx, BB, hal, hj0, hlt2 with
        | 0, _, _, hjL, hx2, _, _, _, _, _ => exact absurd (hx2.trans h32) (H0.out hjL)
        | i + 1, hj, hlt, hjL, hx2, hx, BB, hal, hj0, hlt2 =>
          subst h32
          have hi1 : i < T.length := by omega
          have hilt : i < n := by omega
          have hi2 : (i : Int) < n := by omega
          have hi0 : (0 : Int) ≤ i := by omega
          obtain ⟨p, hp2⟩ : ∃ p, T[i] = p := ⟨_, rfl⟩
          have hp : (⟨T.toArray⟩ : ByteArray)[i]'(by rw [hs]; exact hilt) = p := hp2
          have hpb := byte_bd p
          have hv : ((32 : UInt8).toNat : Int) = 32 := rfl
          have hc : (((i + 1 : Nat) : Int)) = (i : Int) + 1 := by omega
          by_cases hp32 : p = 32
          · subst hp32
            have HA := Lib.hid (HK.out i hjL hx2 hp2)
            go_wp2_with fail
            go_roundw
            case rel => exact ⟨i + 2, by omega, by go_num, by rw [HA.out]; exact BB.out, Q.out⟩
            case measure => simp [intOf]; omega
          · have HA := Lib.hid (HS.out i hjL hx2 (by rw [hp2]; exact hp32))
            have hpne : ((p.toNat : Int) == 32) = false := by
              rw [beq_eq_false_iff_ne]
              intro e
              exact hp32 (UInt8.toNat_inj.1 (by have : (32 : UInt8).toNat = 32 := rfl; omega))
            have hpn2 : ¬ (p.toNat : Int) = 32 := by simpa using hpne
            have HSM := Lib.hid (fun w => small_any 32 w)
            have hl : lowB 32 = 32 := rfl
            rw [hl, hv] at HSM
            have HWB := Lib.hid (wbyte_any BB.out 32 (by omega) hsz)
            rw [hv] at HWB
            go_wp2_with fail
            with_reducible refine (HSM.out _).mono ?_
            rintro e w' ⟨rfl, rfl⟩
            go_wp2_with fail
            with_reducible refine HWB.out.mono ?_
            rintro e w4 ⟨rfl, hb4, hq4, _⟩
            have Q4 := Lib.hid (Q.out.trans hq4)
            clear hq4
            go_wp2_with fail
            go_roundw
            case rel => exact ⟨i + 2, by omega, by go_num, by rw [HA.out]; exact hb4, Q4.out⟩
            case measure => simp [intOf]; omega
      · have HA := Lib.hid (HP.out j hjL (by rw [hx2]; exact h32))
        rw [hx2] at HA
        have hxne : ((x.toNat : Int) == 32) = false := by
          rw [beq_eq_false_iff_ne]
          intro e
          exact h32 (UInt8.toNat_inj.1 (by have : (32 : UInt8).toNat = 32 := rfl; omega))
        have hxn2 : ¬ (x.toNat : Int) = 32 := by simpa using hxne
        have HSM := Lib.hid (fun w => small_any x w)
        have HWB := Lib.hid (wbyte_any BB.out (lowB x) (by omega) hsz)
        generalize lowB x = y at *
        go_wp2_with fail
        with_reducible refine (HSM.out _).mono ?_
        rintro e w' ⟨rfl, rfl⟩
        go_wp2_with fail
        with_reducible refine HWB.out.mono ?_
        rintro e w4 ⟨rfl, hb4, hq4, _⟩
        have Q4 := Lib.hid (Q.out.trans hq4)
        clear hq4
        go_wp2_with fail
        go_roundw
        case rel => exact ⟨j + 1, by omega, by go_num, by rw [HA.out]; exact hb4, Q4.out⟩
        case measure => simp [intOf]; omega
    · obtain rfl : j = n := by omega
      have hlt2 : ¬ (j : Int) < j := by omega
      have HST := Lib.hid (Tryd.Builder_String_any w.heap.size B _ wr BB.out.is hsz)
      rw [hE.out] at HST
      go_wp2_with fail
      with_reducible refine HST.out.mono ?_
      rintro e w4 ⟨rfl, hq4⟩
      have Q4 := Lib.hid (Q.out.trans hq4)
      clear hq4
      go_wp2_with fail
      go_ret
      exact ⟨rfl, Q4.out⟩
end Go.Proofs.YtkmpmphabohkkaaDoor
