/-
  The walk of the law TlvNext.
-/
import Derived.Test.YtepdgaokaneflaaAwakeTlv
import Derived.Test.YtepdgaokaneflaaTlvMath
import Derived.Test.YtepdgaokaneflaaNextRef
import Derived.Test.YtepdgaokaneflaaWithin
namespace Go.Proofs.Ytepdgaokaneflaa.tlvNext
open Go.RowKit

theorem two {W : World} {g : Nat} {t : TypeId} {x y : Value} (h : Blk W g t #[x, y]) : W.cell? ⟨g, 0, none⟩ = some x ∧ W.cell? ⟨g, 1, none⟩ = some y ∧ g < W.heap.size := ⟨h.cell 0, h.cell 1, h.lt⟩
theorem five {W : World} {g : Nat} {t : TypeId} {x y z u v : Value} (h : Blk W g t #[x, y, z, u, v]) :
    W.cell? ⟨g, 0, none⟩ = some x ∧ W.cell? ⟨g, 1, none⟩ = some y ∧ W.cell? ⟨g, 2, none⟩ = some z ∧ W.cell? ⟨g, 3, none⟩ = some u ∧ W.cell? ⟨g, 4, none⟩ = some v ∧ g < W.heap.size := ⟨h.cell 0, h.cell 1, h.cell 2, h.cell 3, h.cell 4, h.lt⟩

set_option maxRecDepth 100000 in
set_option maxHeartbeats 2000000 in
theorem walk {w : World} {a0 : Option Addr} {n0 c0 : Nat} {l0 : List UInt8} (b0 : Bs w a0 n0 c0 l0) :
    Calls Try.prog 7 #[.slice a0 n0 c0] w fun e w' => e = .returned (.bool true) ∧ Below w.heap.size w w' := by
  have HA := Lib.hid (awakeTlv_any)
  have HB0 := Lib.hid b0
  by_cases h0 : n0 ≤ 2000
  · have HR1 := Lib.hid (fun w (h : Bs w a0 n0 c0 l0) => next_any h (by omega))
    have HR2 := Lib.hid (fun w (h : Bs w a0 n0 c0 l0) => ref_next_any h (by omega))
    have hok := Lib.hid (fun h => enc_of_next (l := l0) h)
    have hwi := Lib.hid (fun h => within_next (l := l0) h)
    have hlen := next_lens l0
    rw [b0.len] at hwi hlen
    unfold NextPost hdV erV at HR1
    unfold RefNextPost hdV erV at HR2
    generalize rdNext l0 = q at *
    obtain ⟨⟨g1, g2, g3, g4, g5, g6, g7⟩, cont, rest⟩ := q
    simp only at HR1 HR2 hok hwi hlen
    have hcl : cont.length ≤ 2000 := by omega
    have hrl : rest.length ≤ 2000 := by omega
    obtain ⟨i0, hi, hz0, hz1, hz2⟩ := info_parts info_u8
    clear b0 hlen
    go_enter Try.func7, Try.ntmps7
    go_wp2_with fail
    refine (HA.out _).mono ?_
    rintro e w1 ⟨rfl, q1⟩
    have Q1 := Lib.hid q1
    have X1 := Lib.hid (HB0.out.below q1)
    clear q1
    go_wp2_with fail
    refine (HR1.out _ X1.out).mono ?_
    rintro e w2 ⟨a1, c1, a2, c2, rfl, ho1, ho2, _, q⟩
    have X2 := Lib.hid (((X1.out.below q).alloc (.cells #[.int .i64 g1, .int .i64 g2, .bool g3, .int .i64 g4, .int .i64 g5] 40)).alloc (.cells #[.int .i64 g6, .int .i64 g7] 35))
    have C2 := Lib.hid ((ho1.bs.alloc (.cells #[.int .i64 g1, .int .i64 g2, .bool g3, .int .i64 g4, .int .i64 g5] 40)).alloc (.cells #[.int .i64 g6, .int .i64 g7] 35))
    have D2 := Lib.hid ((ho2.bs.alloc (.cells #[.int .i64 g1, .int .i64 g2, .bool g3, .int .i64 g4, .int .i64 g5] 40)).alloc (.cells #[.int .i64 g6, .int .i64 g7] 35))
    have G2 := Lib.hid ((Blk.new w2 40 #[.int .i64 g1, .int .i64 g2, .bool g3, .int .i64 g4, .int .i64 g5]).alloc (.cells #[.int .i64 g6, .int .i64 g7] 35))
    have I2' : Blk ((w2.alloc (.cells #[.int .i64 g1, .int .i64 g2, .bool g3, .int .i64 g4, .int .i64 g5] 40)).alloc (.cells #[.int .i64 g6, .int .i64 g7] 35)) (w2.heap.size + 1) 35 #[.int .i64 g6, .int .i64 g7] := by
      have := Blk.new (w2.alloc (.cells #[.int .i64 g1, .int .i64 g2, .bool g3, .int .i64 g4, .int .i64 g5] 40)) 35 #[.int .i64 g6, .int .i64 g7]
      simpa using this
    have I2 := Lib.hid I2'
    have Q2 := Lib.hid (bal (bal (bthen Q1.out q) (.cells #[.int .i64 g1, .int .i64 g2, .bool g3, .int .i64 g4, .int .i64 g5] 40)) (.cells #[.int .i64 g6, .int .i64 g7] 35))
    clear q X1 Q1 HR1 ho1 ho2 I2'
    go_wp2_with fail
    refine (HR2.out _ X2.out).mono ?_
    rintro e w3 ⟨a3, c3, a4, c4, rfl, ho3, ho4, q⟩
    have X3 := Lib.hid (((X2.out.below q).alloc (.cells #[.int .i64 g1, .int .i64 g2, .bool g3, .int .i64 g4, .int .i64 g5] 40)).alloc (.cells #[.int .i64 g6, .int .i64 g7] 35))
    have C3 := Lib.hid (((C2.out.below q).alloc (.cells #[.int .i64 g1, .int .i64 g2, .bool g3, .int .i64 g4, .int .i64 g5] 40)).alloc (.cells #[.int .i64 g6, .int .i64 g7] 35))
    have D3 := Lib.hid (((D2.out.below q).alloc (.cells #[.int .i64 g1, .int .i64 g2, .bool g3, .int .i64 g4, .int .i64 g5] 40)).alloc (.cells #[.int .i64 g6, .int .i64 g7] 35))
    have E3 := Lib.hid (((ho3.below q).alloc (.cells #[.int .i64 g1, .int .i64 g2, .bool g3, .int .i64 g4, .int .i64 g5] 40)).alloc (.cells #[.int .i64 g6, .int .i64 g7] 35))
    have F3 := Lib.hid (((ho4.below q).alloc (.cells #[.int .i64 g1, .int .i64 g2, .bool g3, .int .i64 g4, .int .i64 g5] 40)).alloc (.cells #[.int .i64 g6, .int .i64 g7] 35))
    obtain ⟨i30, i31, i3l⟩ := two (I2.out.below q I2.out.lt)
    obtain ⟨k30, k31, k32, k33, k34, k3l⟩ := five (G2.out.below q G2.out.lt)
    have Q3 := Lib.hid (bal (bal (bthen Q2.out q) (.cells #[.int .i64 g1, .int .i64 g2, .bool g3, .int .i64 g4, .int .i64 g5] 40)) (.cells #[.int .i64 g6, .int .i64 g7] 35))
    clear q X2 Q2 HR2 C2 D2 G2 I2 ho3 ho4
    go_wp2_with fail
    refine (bytes_any C3.out E3.out).mono ?_
    rintro e w4 ⟨rfl, rfl⟩
    rw [eqB_self]
    go_wp2_with fail
    refine (bytes_any D3.out F3.out).mono ?_
    rintro e w4 ⟨rfl, rfl⟩
    rw [eqB_self]
    clear E3 F3
    by_cases hC : g6 = 0
    · obtain ⟨k1, k2, k3, k4⟩ := hok.out hC
      have K4 := Lib.hid k4
      have hCi : ((g6 : Int) == 0) = true := by simp; omega
      have hCj : ((g6 : Int) != 0) = false := by simp; omega
      have HE := Lib.hid (fun w (h : Bs w a1 cont.length c1 cont) => encode_ok k1 k2 g3 h (by omega))
      have henc := encB_len g1 g2 g3 cont
      have hb := lenOct_bd (n := cont.length) (by omega)
      obtain ⟨L, hL⟩ : ∃ L, Hid ((encB g1 g2 g3 cont).length = L) := ⟨_, rfl⟩
      have hLb : L ≤ 3000 := by rw [← hL.out, henc]; omega
      rw [hL.out] at HE
      clear k1 k2 k3 k4 hC hok hwi henc hb
      go_wp2_with fail
      refine (HE.out _ C3.out).mono ?_
      rintro e w5 ⟨a5, c5, rfl, ho5, q⟩
      have hsz := Q3.out.size
      have Q5 := Lib.hid (bthen Q3.out q)
      have D5 := Lib.hid (D3.out.below q)
      have hs5 := q.size
      have O5 := Lib.hid ho5
      obtain ⟨B, hB⟩ : ∃ B, ((w3.alloc (.cells #[.int .i64 g1, .int .i64 g2, .bool g3, .int .i64 g4, .int .i64 g5] 40)).alloc (.cells #[.int .i64 g6, .int .i64 g7] 35)).heap.size = B := ⟨_, rfl⟩
      rw [hB] at O5 hs5 hsz
      clear hB q ho5 HE X3 C3 D3 Q3 i30 i31 k30 k31 k32 k33 k34
      have hlim : L + rest.length ≤ 16777216 := by omega
      go_wp2_with (at_builtin; go_must (refine wpList_app_g _ (by rfl) _ _ 30 rfl B 5 i0 Try.underlying30 hi hz0 hz1 hz2 a5 L c5 _ rfl O5.out a2 rest.length c2 rest rfl D5.out hlim hs5 ?_))
      intro a6 c6 w6 ho6 hg6
      have Q6 := Lib.hid (Q5.out.trans (app_below O5.out hg6 hsz (Nat.le_trans hsz hs5)))
      have O6 := Lib.hid ho6.bs
      have X6 := Lib.hid (HB0.out.below Q6.out)
      clear ho6 hg6 O5 D5 Q5
      go_wp2_with fail
      refine (bytes_any O6.out X6.out).mono ?_
      rintro e w7 ⟨rfl, rfl⟩
      rw [K4.out, eqB_self]
      go_wp2_with fail
      go_ret
      exact ⟨rfl, Q6.out⟩
    · have hCi : ((g6 : Int) == 0) = false := by simp; omega
      have hCj : ((g6 : Int) != 0) = true := by simp; omega
      have hC0 : (0 : Int) < g6 := by omega
      obtain ⟨hw, _, _⟩ := hwi.out hC
      have HW := Lib.hid (fun w => within_err hC0 (Int.natCast_nonneg g7) (show (g7 : Int) ≤ n0 by omega) w)
      clear hok hC hwi hw
      go_wp2_with fail
      refine (HW.out _).mono ?_
      rintro e w5 ⟨rfl, q⟩
      have Q5 := Lib.hid (bthen Q3.out q)
      clear q HW
      go_wp2_with fail
      go_ret
      exact ⟨rfl, Q5.out⟩
  · clear b0
    go_enter Try.func7, Try.ntmps7
    go_wp2_with (first | (go_at_call 10; go_must (refine (HA.out _).mono ?_); rintro e w1 ⟨rfl, q1⟩) | fail)
    all_goals
      go_ret
      exact ⟨rfl, bthen (by assumption) (by assumption)⟩
end Go.Proofs.Ytepdgaokaneflaa.tlvNext
