/-
  The walk of the law TlvReads.
-/
import Derived.Test.YtepdgaokaneflaaAwakeTlv
import Derived.Test.YtepdgaokaneflaaTlvMath
import Derived.Test.YtepdgaokaneflaaHeadRef
namespace Go.Proofs.Ytepdgaokaneflaa.tlvReads
open Go.RowKit

theorem two {W : World} {g : Nat} {t : TypeId} {x y : Value} (h : Blk W g t #[x, y]) : W.cell? ⟨g, 0, none⟩ = some x ∧ W.cell? ⟨g, 1, none⟩ = some y ∧ g < W.heap.size := ⟨h.cell 0, h.cell 1, h.lt⟩
theorem five {W : World} {g : Nat} {t : TypeId} {x y z u v : Value} (h : Blk W g t #[x, y, z, u, v]) :
    W.cell? ⟨g, 0, none⟩ = some x ∧ W.cell? ⟨g, 1, none⟩ = some y ∧ W.cell? ⟨g, 2, none⟩ = some z ∧ W.cell? ⟨g, 3, none⟩ = some u ∧ W.cell? ⟨g, 4, none⟩ = some v ∧ g < W.heap.size := ⟨h.cell 0, h.cell 1, h.cell 2, h.cell 3, h.cell 4, h.lt⟩

set_option maxRecDepth 100000 in
set_option maxHeartbeats 2000000 in
theorem walk {w : World} {a0 : Option Addr} {n0 c0 : Nat} {l0 : List UInt8} (b0 : Bs w a0 n0 c0 l0) :
    Calls Try.prog 5 #[.slice a0 n0 c0] w fun e w' => e = .returned (.bool true) ∧ Below w.heap.size w w' := by
  have HA := Lib.hid (awakeTlv_any)
  have HB0 := Lib.hid b0
  by_cases h0 : n0 ≤ 2000
  · have hnc := b0.2.1
    have HR1 := Lib.hid (fun w (h : Bs w a0 n0 c0 l0) => readLength_any h)
    have HR2 := Lib.hid (fun w (h : Bs w a0 n0 c0 l0) => ref_readLength_any h)
    have HH1 := Lib.hid (fun w (h : Bs w a0 n0 c0 l0) => readHeader_any h)
    have HH2 := Lib.hid (fun w (h : Bs w a0 n0 c0 l0) => ref_readHeader_any h)
    have hbd := rdLen_bd l0
    have hok := Lib.hid (fun h => rdLen_ok (l := l0) h)
    rw [b0.len] at hbd hok
    unfold hdV erV at HH1 HH2
    generalize rdHead l0 = hh at *
    obtain ⟨g1, g2, g3, g4, g5, g6, g7⟩ := hh
    generalize rdLen l0 = q at *
    obtain ⟨N, S, C, O⟩ := q
    simp only at hbd HR1 HR2 HH1 HH2 hok
    obtain ⟨hN, hS5, hC4, hO4, hS, hO⟩ := hbd
    clear b0
    go_enter Try.func5, Try.ntmps5
    go_wp2_with fail
    refine (HA.out _).mono ?_
    rintro e w1 ⟨rfl, q1⟩
    have Q1 := Lib.hid q1
    have X1 := Lib.hid (HB0.out.below q1)
    clear q1 HB0
    go_wp2_with fail
    refine (HR1.out _ X1.out).mono ?_
    rintro e w2 ⟨rfl, q⟩
    have X2 := Lib.hid ((X1.out.below q).alloc (.cells #[.int .i64 C, .int .i64 O] 35))
    have E2 := Lib.hid (Blk.new w2 35 #[.int .i64 C, .int .i64 O])
    have Q2 := Lib.hid (bal (bthen Q1.out q) (.cells #[.int .i64 C, .int .i64 O] 35))
    clear q X1 Q1 HR1
    go_wp2_with fail
    refine (HR2.out _ X2.out).mono ?_
    rintro e w3 ⟨rfl, q⟩
    have X3 := Lib.hid ((X2.out.below q).alloc (.cells #[.int .i64 C, .int .i64 O] 35))
    have E3 := Lib.hid ((E2.out.below q E2.out.lt).alloc (.cells #[.int .i64 C, .int .i64 O] 35))
    have F3 := Lib.hid (Blk.new w3 35 #[.int .i64 C, .int .i64 O])
    have Q3 := Lib.hid (bal (bthen Q2.out q) (.cells #[.int .i64 C, .int .i64 O] 35))
    clear q X2 Q2 HR2 E2
    go_wp2_with fail
    refine (HH1.out _ X3.out).mono ?_
    rintro e w4 ⟨rfl, q⟩
    have X4 := Lib.hid (((X3.out.below q).alloc (.cells #[.int .i64 g1, .int .i64 g2, .bool g3, .int .i64 g4, .int .i64 g5] 40)).alloc (.cells #[.int .i64 g6, .int .i64 g7] 35))
    have E4 := Lib.hid (((E3.out.below q E3.out.lt).alloc (.cells #[.int .i64 g1, .int .i64 g2, .bool g3, .int .i64 g4, .int .i64 g5] 40)).alloc (.cells #[.int .i64 g6, .int .i64 g7] 35))
    have F4 := Lib.hid (((F3.out.below q F3.out.lt).alloc (.cells #[.int .i64 g1, .int .i64 g2, .bool g3, .int .i64 g4, .int .i64 g5] 40)).alloc (.cells #[.int .i64 g6, .int .i64 g7] 35))
    have G4 := Lib.hid ((Blk.new w4 40 #[.int .i64 g1, .int .i64 g2, .bool g3, .int .i64 g4, .int .i64 g5]).alloc (.cells #[.int .i64 g6, .int .i64 g7] 35))
    have I4' : Blk ((w4.alloc (.cells #[.int .i64 g1, .int .i64 g2, .bool g3, .int .i64 g4, .int .i64 g5] 40)).alloc (.cells #[.int .i64 g6, .int .i64 g7] 35)) (w4.heap.size + 1) 35 #[.int .i64 g6, .int .i64 g7] := by
      have := Blk.new (w4.alloc (.cells #[.int .i64 g1, .int .i64 g2, .bool g3, .int .i64 g4, .int .i64 g5] 40)) 35 #[.int .i64 g6, .int .i64 g7]
      simpa using this
    have I4 := Lib.hid I4'
    clear I4'
    have Q4 := Lib.hid (bal (bal (bthen Q3.out q) (.cells #[.int .i64 g1, .int .i64 g2, .bool g3, .int .i64 g4, .int .i64 g5] 40)) (.cells #[.int .i64 g6, .int .i64 g7] 35))
    clear q X3 Q3 HH1 E3 F3
    go_wp2_with fail
    refine (HH2.out _ X4.out).mono ?_
    rintro e w5 ⟨rfl, q⟩
    have X5 := Lib.hid (((X4.out.below q).alloc (.cells #[.int .i64 g1, .int .i64 g2, .bool g3, .int .i64 g4, .int .i64 g5] 40)).alloc (.cells #[.int .i64 g6, .int .i64 g7] 35))
    obtain ⟨e50, e51, e5l⟩ := two (E4.out.below q E4.out.lt)
    obtain ⟨f50, f51, f5l⟩ := two (F4.out.below q F4.out.lt)
    obtain ⟨i50, i51, i5l⟩ := two (I4.out.below q I4.out.lt)
    obtain ⟨k50, k51, k52, k53, k54, k5l⟩ := five (G4.out.below q G4.out.lt)
    have Q5 := Lib.hid (bal (bal (bthen Q4.out q) (.cells #[.int .i64 g1, .int .i64 g2, .bool g3, .int .i64 g4, .int .i64 g5] 40)) (.cells #[.int .i64 g6, .int .i64 g7] 35))
    clear q X4 Q4 HH2 E4 F4 G4 I4
    by_cases hC : C = 0
    · obtain ⟨k1, k2, k3, k4⟩ := hok.out hC
      have HT := Lib.hid (bs_take X5.out hS)
      rw [← k1] at HT
      have HL := Lib.hid (fun w => length_ok hN w)
      have hSi : (S : Int) ≤ n0 := by omega
      have hCi : ((C : Int) == 0) = true := by simp; omega
      have hCj : ((C : Int) != 0) = false := by simp; omega
      clear k1 k4 hC hok
      go_wp2_with fail
      refine (HL.out _).mono ?_
      rintro e w6 ⟨a6, c6, rfl, ho, q⟩
      have A6 := Lib.hid ho.bs
      have T6 := Lib.hid (HT.out.below q)
      have Q6 := Lib.hid (bthen Q5.out q)
      clear q ho HT HL X5 Q5 e50 e51 f50 f51 i50 i51 k50 k51 k52 k53 k54
      go_wp2_with fail
      refine (bytes_any A6.out T6.out).mono ?_
      rintro e w7 ⟨rfl, rfl⟩
      rw [eqB_self]
      go_wp2_with fail
      go_ret
      exact ⟨rfl, Q6.out⟩
    · have hCi : ((C : Int) == 0) = false := by simp; omega
      have hCj : ((C : Int) != 0) = true := by simp; omega
      clear hok hC
      go_wp2_with fail
      go_ret
      exact ⟨rfl, Q5.out⟩
  · clear b0
    go_enter Try.func5, Try.ntmps5
    go_wp2_with (first | (go_at_call 10; go_must (refine (HA.out _).mono ?_); rintro e w1 ⟨rfl, q1⟩) | fail)
    all_goals
      go_ret
      exact ⟨rfl, bthen (by assumption) (by assumption)⟩
end Go.Proofs.Ytepdgaokaneflaa.tlvReads
