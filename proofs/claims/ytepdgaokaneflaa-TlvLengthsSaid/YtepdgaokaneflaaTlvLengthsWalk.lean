/-
  The walk of the law TlvLengths.
-/
import Derived.Test.YtepdgaokaneflaaAwakeTlv
import Derived.Test.YtepdgaokaneflaaTlvMath
namespace Go.Proofs.Ytepdgaokaneflaa.tlvLengths
open Go.RowKit

set_option maxRecDepth 100000 in
set_option maxHeartbeats 1000000 in
theorem walk {w : World} {a0 : Option Addr} {n0 c0 : Nat} {l0 : List UInt8} {v : Int} (_wv : (Lit.int .i64 v).wf = true) (b0 : Bs w a0 n0 c0 l0) :
    Calls Try.prog 4 #[.int .i64 v, .slice a0 n0 c0] w fun e w' => e = .returned (.bool true) ∧ Below w.heap.size w w' := by
  have HA := Lib.hid (awakeTlv_any)
  have HB0 := Lib.hid b0
  clear b0
  by_cases h0 : n0 ≤ 2000
  · by_cases hv : v < 0 ∨ 2147483647 < v
    · have H1 := Lib.hid (fun w => length_bad hv w)
      have H2 := Lib.hid (fun w => ref_length_bad hv w)
      clear hv
      go_enter Try.func4, Try.ntmps4
      go_wp2_with fail
      refine (HA.out _).mono ?_
      rintro e w1 ⟨rfl, q1⟩
      have Q1 := Lib.hid q1
      clear q1
      go_wp2_with fail
      refine (H1.out _).mono ?_
      rintro e w2 ⟨rfl, rfl⟩
      go_wp2_with fail
      refine (H2.out _).mono ?_
      rintro e w2 ⟨rfl, rfl⟩
      go_wp2_with fail
      refine (bytes_any (Bs.nil_ _) (Bs.nil_ _)).mono ?_
      rintro e w2 ⟨rfl, rfl⟩
      rw [eqB_self]
      go_wp2_with fail
      refine (bytes_any (Bs.nil_ _) (Bs.nil_ _)).mono ?_
      rintro e w2 ⟨rfl, rfl⟩
      rw [eqB_self]
      go_wp2_with fail
      go_ret
      exact ⟨rfl, Q1.out⟩
    · obtain ⟨n, rfl⟩ : ∃ n : Nat, v = n := ⟨v.toNat, by omega⟩
      have hn : n ≤ 2147483647 := by omega
      have H1 := Lib.hid (fun w => length_ok hn w)
      have H2 := Lib.hid (fun w => ref_length_ok hn w)
      have HR := Lib.hid (rdLen_lenOct hn l0)
      have hb := lenOct_bd hn
      obtain ⟨L, hL⟩ : ∃ L, Hid ((lenOct n).length = L) := ⟨_, rfl⟩
      rw [hL.out] at H1 H2 hb HR
      obtain ⟨o, ho⟩ : ∃ o, Hid (lenOct n = o) := ⟨_, rfl⟩
      rw [ho.out] at H1 H2 HR
      obtain ⟨i0, hi, hz0, hz1, hz2⟩ := info_parts info_u8
      clear hv hn
      go_enter Try.func4, Try.ntmps4
      go_wp2_with fail
      refine (HA.out _).mono ?_
      rintro e w1 ⟨rfl, q1⟩
      have Q1 := Lib.hid q1
      have X1 := Lib.hid (HB0.out.below q1)
      clear q1 HB0
      go_wp2_with fail
      refine (H1.out _).mono ?_
      rintro e w2 ⟨a2, c2, rfl, ho2, q⟩
      have A2 := Lib.hid ho2.bs
      have X2 := Lib.hid (X1.out.below q)
      have Q2 := Lib.hid (bthen Q1.out q)
      clear q ho2 X1 Q1
      go_wp2_with fail
      refine (H2.out _).mono ?_
      rintro e w3 ⟨a3, c3, rfl, ho3, q⟩
      have A3 := Lib.hid (A2.out.below q)
      have C3 := Lib.hid ho3.bs
      have X3 := Lib.hid (X2.out.below q)
      have Q3 := Lib.hid (bthen Q2.out q)
      clear q ho3 X2 Q2 A2
      go_wp2_with fail
      refine (bytes_any A3.out C3.out).mono ?_
      rintro e w4 ⟨rfl, rfl⟩
      rw [eqB_self]
      go_wp2_with (at_builtin; go_must (refine wpList_app _ rfl _ _ 30 rfl w3.heap.size 5 i0 Try.underlying30 hi hz0 hz1 hz2 (some ⟨w3.heap.size, 0, none⟩) 0 0 [] rfl (own_made w3 _) a2 L c2 o rfl (A3.out.alloc _) ?c1 ?c2 ?_))
      case c1 => omega
      case c2 => simp
      intro a4 c4 w4 ho4 hg4
      have D4 : Hid (Below w3.heap.size w3 w4) := (bal (Below.refl _ _) _).trans (app_below (own_made w3 _) hg4 (Nat.le_refl _) (by simp))
      have O4 := Lib.hid ho4
      have X4 := Lib.hid (X3.out.below D4.out)
      have hs4 := D4.out.size
      clear ho4 hg4
      go_wp2_with (at_builtin; go_must (refine wpList_app _ rfl _ _ 30 rfl w3.heap.size 5 i0 Try.underlying30 hi hz0 hz1 hz2 a4 L c4 o rfl O4.out a0 n0 c0 l0 rfl X4.out ?c3 ?c4 ?_))
      case c3 => omega
      case c4 => exact hs4
      intro a5 c5 w5 ho5 hg5
      have Q5 := Lib.hid (bthen Q3.out (D4.out.trans (app_below O4.out hg5 (Nat.le_refl _) hs4)))
      have O5 := Lib.hid ho5.bs
      clear ho5 hg5 O4 X4 D4 hs4 A3 C3 X3 Q3
      have HRL := Lib.hid (readLength_any O5.out)
      rw [HR.out] at HRL
      go_wp2_with fail
      refine HRL.out.mono ?_
      rintro e w6 ⟨rfl, q⟩
      have Q6 := Lib.hid (bthen Q5.out q)
      clear q HRL
      go_wp2_with fail
      go_ret
      exact ⟨rfl, bal Q6.out _⟩
  · go_enter Try.func4, Try.ntmps4
    go_wp2_with (first | (go_at_call 10; go_must (refine (HA.out _).mono ?_); rintro e w1 ⟨rfl, q1⟩) | fail)
    all_goals
      go_ret
      exact ⟨rfl, bthen (by assumption) (by assumption)⟩
end Go.Proofs.Ytepdgaokaneflaa.tlvLengths
