/-
  The walk of the law TlvEncodes.
-/
import Derived.Test.YtepdgaokaneflaaAwakeTlv
import Derived.Test.YtepdgaokaneflaaTlvMath
namespace Go.Proofs.Ytepdgaokaneflaa.tlvEncodes
open Go.RowKit

theorem three {W : World} {g : Nat} {t : TypeId} {x y z : Value} (h : Blk W g t #[x, y, z]) : W.cell? ⟨g, 0, none⟩ = some x ∧ W.cell? ⟨g, 1, none⟩ = some y ∧ W.cell? ⟨g, 2, none⟩ = some z ∧ g < W.heap.size := ⟨h.cell 0, h.cell 1, h.cell 2, h.lt⟩

set_option maxRecDepth 100000 in
set_option maxHeartbeats 2000000 in
theorem walk {w : World} {c n : Int} {k : Bool} {a0 a1 : Option Addr} {n0 c0 n1 c1 : Nat} {l0 l1 : List UInt8} (b0 : Bs w a0 n0 c0 l0) (b1 : Bs w a1 n1 c1 l1) :
    Calls Try.prog 6 #[.agg #[.int .i64 c, .int .i64 n, .bool k], .slice a0 n0 c0, .slice a1 n1 c1] w fun e w' => e = .returned (.bool true) ∧ Below w.heap.size w w' := by
  have HA := Lib.hid (awakeTlv_any)
  have HB0 := Lib.hid b0
  have HB1 := Lib.hid b1
  have hl0 := Lib.hid b0.len
  clear b0 b1
  by_cases hs : n0 ≤ 70000 ∧ n1 ≤ 2000
  · obtain ⟨h0, h1⟩ := hs
    by_cases hb : c < 0 ∨ 3 < c ∨ n < 0 ∨ 30 < n
    · have H1 := Lib.hid (fun w s => encode_bad hb k s w)
      have H2 := Lib.hid (fun w s => ref_encode_bad hb k s w)
      clear hb
      go_enter Try.func6, Try.ntmps6
      go_wp2_with fail
      refine (HA.out _).mono ?_
      rintro e w1 ⟨rfl, q1⟩
      obtain ⟨z0, z1, z2, zl⟩ := three ((Blk.new w 45 #[.int .i64 c, .int .i64 n, .bool k]).below q1 (by simp))
      have Q1 := Lib.hid (bthen (bal (Below.refl _ w) _) q1)
      clear q1
      go_wp2_with (first | (go_at_call 22; go_must (refine (H1.out _ _).mono ?_); rintro e w2 ⟨rfl, rfl⟩) | (go_at_call 23; go_must (refine (H2.out _ _).mono ?_); rintro e w2 ⟨rfl, rfl⟩))
      refine (bytes_any (Bs.nil_ _) (Bs.nil_ _)).mono ?_
      rintro e w2 ⟨rfl, rfl⟩
      rw [eqB_self]
      go_wp2_with fail
      refine (bytes_any (Bs.nil_ _) (Bs.nil_ _)).mono ?_
      rintro e w2 ⟨rfl, rfl⟩
      rw [eqB_self]
      go_wp2_with fail
      go_ret
      exact ⟨rfl, Q1.out⟩
    · obtain ⟨c', rfl⟩ : ∃ c' : Nat, c = c' := ⟨c.toNat, by omega⟩
      obtain ⟨n', rfl⟩ : ∃ n' : Nat, n = n' := ⟨n.toNat, by omega⟩
      have hc3 : c' ≤ 3 := by omega
      have hn30 : n' ≤ 30 := by omega
      have H1 := Lib.hid (fun w (h : Bs w a0 n0 c0 l0) => encode_ok hc3 hn30 k h (by omega))
      have H2 := Lib.hid (fun w (h : Bs w a0 n0 c0 l0) => ref_encode_ok hc3 hn30 k h (by omega))
      have HN := Lib.hid (rdNext_enc hc3 hn30 k (l := l0) (by have := hl0.out; omega) l1)
      have hel := encB_len c' n' k l0
      rw [hl0.out] at HN hel
      have hbd := lenOct_bd (n := n0) (by omega)
      obtain ⟨S, hS⟩ : ∃ S, Hid ((lenOct n0).length + 1 = S) := ⟨_, rfl⟩
      obtain ⟨M, hM⟩ : ∃ M, Hid ((encB c' n' k l0).length = M) := ⟨_, rfl⟩
      have hMS : (M : Int) - n0 = S := by rw [← hM.out, ← hS.out, hel]; omega
      have hMb : M ≤ 70006 := by rw [← hM.out, hel]; omega
      rw [hS.out] at HN
      rw [hM.out] at H1 H2
      generalize encB c' n' k l0 = E at *
      obtain ⟨i0, hi, hz0, hz1, hz2⟩ := info_parts info_u8
      clear hb hc3 hn30 hel hbd
      go_enter Try.func6, Try.ntmps6
      go_wp2_with fail
      refine (HA.out _).mono ?_
      rintro e w1 ⟨rfl, q1⟩
      have Z1 := Lib.hid ((Blk.new w 45 #[.int .i64 c', .int .i64 n', .bool k]).below q1 (by simp))
      have Q1 := Lib.hid (bthen (bal (Below.refl _ w) (.cells #[.int .i64 c', .int .i64 n', .bool k] 45)) q1)
      clear q1
      obtain ⟨z0, z1, z2, zl⟩ := three Z1.out
      go_wp2_with fail
      refine (H1.out _ (HB0.out.below Q1.out)).mono ?_
      rintro e w2 ⟨a2, c2, rfl, ho2, q⟩
      have A2 := Lib.hid ho2.bs
      have Z2 := Lib.hid (Z1.out.below q Z1.out.lt)
      have Q2 := Lib.hid (bthen Q1.out q)
      clear q ho2 z0 z1 z2 zl Z1 Q1 H1
      obtain ⟨z0, z1, z2, zl⟩ := three Z2.out
      go_wp2_with fail
      refine (H2.out _ (HB0.out.below Q2.out)).mono ?_
      rintro e w3 ⟨a3, c3, rfl, ho3, q⟩
      have A3 := Lib.hid (A2.out.below q)
      have C3 := Lib.hid ho3.bs
      have Z3 := Lib.hid (Z2.out.below q Z2.out.lt)
      have Q3 := Lib.hid (bthen Q2.out q)
      clear q ho3 z0 z1 z2 zl Z2 Q2 H2 A2
      go_wp2_with fail
      refine (bytes_any A3.out C3.out).mono ?_
      rintro e w4 ⟨rfl, rfl⟩
      rw [eqB_self]
      go_wp2_with (at_builtin; go_must (refine wpList_app _ rfl _ _ 30 rfl w3.heap.size 5 i0 Try.underlying30 hi hz0 hz1 hz2 (some ⟨w3.heap.size, 0, none⟩) 0 0 [] rfl (own_made w3 _) a2 M c2 _ rfl (A3.out.alloc _) ?c1 ?c2 ?_))
      case c1 => omega
      case c2 => simp
      intro a4 c4 w4 ho4 hg4
      have D4 : Hid (Below w3.heap.size w3 w4) := (bal (Below.refl _ _) _).trans (app_below (own_made w3 _) hg4 (Nat.le_refl _) (by simp))
      have O4 := Lib.hid ho4
      have X4 := Lib.hid ((HB1.out.below Q3.out).below D4.out)
      have hs4 := D4.out.size
      clear ho4 hg4 C3
      go_wp2_with (at_builtin; go_must (refine wpList_app _ rfl _ _ 30 rfl w3.heap.size 5 i0 Try.underlying30 hi hz0 hz1 hz2 a4 M c4 _ rfl O4.out a1 n1 c1 l1 rfl X4.out ?c3 ?c4 ?_))
      case c3 => omega
      case c4 => exact hs4
      intro a5 c5 w5 ho5 hg5
      have D5 : Hid (Below w3.heap.size w3 w5) := D4.out.trans (app_below O4.out hg5 (Nat.le_refl _) hs4)
      have Q5 := Lib.hid (bthen Q3.out D5.out)
      have O5 := Lib.hid ho5.bs
      have Z5 := Lib.hid (Z3.out.below D5.out Z3.out.lt)
      clear ho5 hg5 O4 X4 D4 hs4 A3 Q3 Z3 D5
      have HNX := Lib.hid (next_any O5.out (by omega))
      unfold NextPost at HNX
      rw [HN.out] at HNX
      unfold hdV erV at HNX
      go_wp2_with fail
      refine HNX.out.mono ?_
      rintro e w6 ⟨a6, c6, a7, c7, rfl, ho6, ho7, _, q⟩
      have Q6 := Lib.hid (bthen Q5.out q)
      have C6 := Lib.hid ho6.bs
      have D6 := Lib.hid ho7.bs
      obtain ⟨z0, z1, z2, zl⟩ := three (Z5.out.below q Z5.out.lt)
      clear q ho6 ho7 HNX O5 Z5 Q5
      go_wp2_with fail
      refine (bytes_any ((C6.out.alloc _).alloc _) (((HB0.out.below Q6.out).alloc _).alloc _)).mono ?_
      rintro e w7 ⟨rfl, rfl⟩
      rw [eqB_self]
      go_wp2_with fail
      refine (bytes_any ((D6.out.alloc _).alloc _) (((HB1.out.below Q6.out).alloc _).alloc _)).mono ?_
      rintro e w7 ⟨rfl, rfl⟩
      rw [eqB_self]
      go_wp2_with fail
      go_ret
      exact ⟨rfl, bal (bal Q6.out _) _⟩
  · go_enter Try.func6, Try.ntmps6
    go_wp2_with (first | (go_at_call 10; go_must (refine (HA.out _).mono ?_); rintro e w1 ⟨rfl, q1⟩) | fail)
    all_goals
      go_ret
      exact ⟨rfl, bthen (bthen (bal (Below.refl _ w) (.cells #[.int .i64 c, .int .i64 n, .bool k] 45)) (by assumption)) q1⟩
end Go.Proofs.Ytepdgaokaneflaa.tlvEncodes
