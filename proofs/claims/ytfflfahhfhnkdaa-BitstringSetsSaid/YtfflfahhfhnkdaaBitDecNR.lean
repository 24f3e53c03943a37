/-
  Contract of DecodeNamed, of the reference.
-/
import Derived.Test.YtfflfahhfhnkdaaBitDecN
import Derived.Test.YtfflfahhfhnkdaaBitDecRef
import Derived.Test.YtfflfahhfhnkdaaBitEncNR
import Derived.Test.YtfflfahhfhnkdaaBytesEq
namespace Go.Proofs.Ytfflfahhfhnkdaa
open Go.RowKit

theorem bitsOf_len (c : List UInt8) : (bitsOf c).1.length ≤ c.length := by
  rcases h : insOk c with _ | _
  · rw [(bitsOf_no h).1]
    exact Nat.zero_le _
  · rw [(bitsOf_yes h).1]
    unfold insB
    simp

set_option maxRecDepth 100000 in
set_option maxHeartbeats 4000000 in
theorem ref_decn_any {w : World} {a : Option Addr} {n c : Nat} {l : List UInt8} (h : Bs w a n c l) (hz : n ≤ 1000000) (m : Int) :
    Calls Try.prog 28 #[.slice a n c, .int .i64 m] w fun e w' => e = .returned (.tuple #[.int .i64 (dnN l m), .int .i64 (dnC l m)]) ∧ Below w.heap.size w w' := by
  by_cases hm : 1 ≤ m ∧ m ≤ 32
  · obtain ⟨hm1, hm2⟩ := hm
    obtain ⟨M, rfl⟩ : ∃ M : Nat, m = M := ⟨m.toNat, by omega⟩
    have hM3 : ¬ (M : Int) < 1 := by omega
    have hM32 : M ≤ 32 := by omega
    have HX := Lib.hid h
    have HD := Lib.hid (ref_bdec_any h)
    have hil : (bitsOf l).1.length ≤ 1000000 := by have := h.len; have := bitsOf_len l; omega
    have HT : Hid (∀ k, takN l k = setTo (fun i => atB (bitsOf l).1 (bitsOf l).2 i) k) := fun _ => rfl
    have HNO := Lib.hid (fun (h : ¬ namO (takN l M) = l) => dn_none (c := l) (m := (M : Int)) ⟨hm1, hm2⟩ (takN_none (most := (M : Int)) (by rw [Int.toNat_natCast]; exact h)))
    have HYES := Lib.hid (fun (h : namO (takN l M) = l) => dn_some (c := l) (m := (M : Int)) ⟨hm1, hm2⟩ (takN_some (most := (M : Int)) hm1 hm2 (by rw [Int.toNat_natCast]; exact h)))
    rw [Int.toNat_natCast] at HYES
    have hlt := takN_lt l M
    have hlt2 : 2 ^ M ≤ 2 ^ 32 := Nat.pow_le_pow_right (by omega) hM32
    have HE := Lib.hid (fun w => ref_encn_any w (takN l M : Int) (M : Int) (by omega))
    rw [(en_yes (by omega) hM32 hlt).1, (en_yes (by omega) hM32 hlt).2] at HE
    have HAT := Lib.hid (fun (w : World) a c (h : Bs w a (bitsOf l).1.length c (bitsOf l).1) i => ref_bat_any h ((bitsOf l).2 : Int) hil i)
    unfold bV at HD HAT
    rw [HT.out] at HE HNO HYES
    clear h hil hlt hlt2 HT
    generalize (bitsOf l).1 = r at *
    generalize (bitsOf l).2 = u at *
    generalize dbC l = C at *
    go_enter Try.func28, Try.ntmps28
    go_wp2_with fail
    with_reducible refine HD.out.mono ?_
    rintro e w1 ⟨a1, c1, rfl, hx, q⟩
    have X1 := Lib.hid (hx.alloc (.cells #[.slice a1 r.length c1, .int .i64 (u : Int)] 24))
    have Q1 := Lib.hid (bal q (.cells #[.slice a1 r.length c1, .int .i64 (u : Int)] 24))
    have Z1 := Lib.hid (Blk.new w1 24 #[.slice a1 r.length c1, .int .i64 (u : Int)])
    obtain ⟨T, hT⟩ : ∃ T, w1.heap.size = T := ⟨_, rfl⟩
    rw [hT] at Z1
    clear hx q
    go_wp2_with fail
    generalize w1.alloc (.cells #[.slice a1 r.length c1, .int .i64 (u : Int)] 24) = w2 at *
    go_loopw [8, 9, 10] (fun s v i wr => ∃ k : Nat, k ≤ M ∧ i = .int .i64 k ∧ v = .int .i64 ((2 ^ k : Nat) : Int) ∧ s = .int .i64 (setTo (fun i => atB r u i) k : Nat) ∧ Blk wr T 24 #[.slice a1 r.length c1, .int .i64 (u : Int)] ∧ Bs wr a1 r.length c1 r ∧ Below w.heap.size w wr) (fun _ _ i _ => M - (intOf i).toNat)
    case atStart => exact ⟨0, Nat.zero_le _, rfl, rfl, rfl, Z1.out, X1.out, Q1.out⟩
    case round =>
      obtain ⟨k, hk, rfl, rfl, rfl, hzb, hxb, hq⟩ := hrel
      have Z3 := Lib.hid hzb
      have X3 := Lib.hid hxb
      have Q3 := Lib.hid hq
      clear hzb hxb hq
      obtain ⟨z0, z1, zl, zf⟩ := Z3.out.cells2
      have hk0 : (0 : Int) ≤ k := by omega
      have hlo := setTo_lt (fun i => atB r u i) k
      have hpw : 2 ^ k ≤ 2 ^ 32 := Nat.pow_le_pow_right (by omega) (by omega)
      by_cases hlt : k < M
      · have hlt2 : (k : Int) < M := by omega
        have HR4 := Lib.hid (HAT.out _ _ _ X3.out (k : Int))
        have HST : Hid (setTo (fun i => atB r u i) (k + 1) = setTo (fun i => atB r u i) k + bt (atB r u k) * 2 ^ k) := rfl
        have HP : Hid (2 ^ (k + 1) = 2 ^ k * 2) := Nat.pow_succ ..
        generalize setTo (fun i => atB r u i) k = A at *
        generalize 2 ^ k = p at *
        have hp1 : (p : Int) ≤ 4294967296 := by omega
        have hA1 : (A : Int) ≤ 4294967296 := by omega
        clear hpw hlo
        rcases hbit : atB r u (k : Int) with _ | _
        · rw [hbit] at HR4 HST
          clear hbit
          go_wp2_with fail
          with_reducible refine HR4.out.mono ?_
          rintro e w5 ⟨rfl, q⟩
          have Z5 := Lib.hid (Z3.out.below q zl)
          have X5 := Lib.hid (X3.out.below q)
          have Q5 := Lib.hid (bthen Q3.out q)
          clear q
          go_wp2
          go_roundw
          case rel => exact ⟨k + 1, by omega, by go_num, by rw [HP.out]; go_num, by rw [HST.out]; simp [bt], Z5.out, X5.out, Q5.out⟩
          case measure => simp [intOf]; omega
        · rw [hbit] at HR4 HST
          clear hbit
          go_wp2_with fail
          with_reducible refine HR4.out.mono ?_
          rintro e w5 ⟨rfl, q⟩
          have Z5 := Lib.hid (Z3.out.below q zl)
          have X5 := Lib.hid (X3.out.below q)
          have Q5 := Lib.hid (bthen Q3.out q)
          clear q
          go_wp2
          go_roundw
          case rel => exact ⟨k + 1, by omega, by go_num, by rw [HP.out]; go_num, by rw [HST.out]; simp [bt], Z5.out, X5.out, Q5.out⟩
          case measure => simp [intOf]; omega
      · obtain rfl : k = M := by omega
        have hlt2 : ¬ (k : Int) < k := by omega
        clear hpw hlo hlt hk hM32 hM3
        go_wp2_with fail
        with_reducible refine (HE.out _).mono ?_
        rintro e w5 ⟨a5, c5, rfl, ho, q⟩
        have Q5 := Lib.hid (bthen Q3.out q)
        have HB := Lib.hid (bytes_any ho.bs (HX.out.below Q5.out))
        clear q ho
        by_cases he : namO (setTo (fun i => atB r u i) k) = l
        · have HR := Lib.hid (HYES.out he)
          have hb : eqB (namO (setTo (fun i => atB r u i) k)) l = true := by rw [he]; exact eqB_self _
          rw [hb] at HB
          clear he hb
          go_wp2_with fail
          with_reducible refine HB.out.mono ?_
          rintro e w6 ⟨rfl, rfl⟩
          go_wp2_with fail
          go_ret2
          exact ⟨by rw [HR.out.1, HR.out.2]; rfl, Q5.out⟩
        · have HR := Lib.hid (HNO.out he)
          have hb : eqB (namO (setTo (fun i => atB r u i) k)) l = false := by unfold eqB; exact decide_eq_false he
          rw [hb] at HB
          clear he hb
          go_wp2_with fail
          with_reducible refine HB.out.mono ?_
          rintro e w6 ⟨rfl, rfl⟩
          go_wp2_with fail
          go_ret2
          exact ⟨by rw [HR.out.1, HR.out.2]; rfl, Q5.out⟩
  · rw [(dn_out hm).1, (dn_out hm).2]
    by_cases hm1 : m < 1
    · go_enter Try.func28, Try.ntmps28
      go_wp2_with fail
      go_ret2
      exact ⟨rfl, Below.refl _ _⟩
    · have hm2 : (32 : Int) < m := by omega
      go_enter Try.func28, Try.ntmps28
      go_wp2_with fail
      go_ret2
      exact ⟨rfl, Below.refl _ _⟩
end Go.Proofs.Ytfflfahhfhnkdaa
