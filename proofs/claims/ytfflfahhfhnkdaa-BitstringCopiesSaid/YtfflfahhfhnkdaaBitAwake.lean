/-
  Contract of awake (the law's fixed examples), stage 6.
-/
import Derived.Test.YtfflfahhfhnkdaaBitDecN
import Derived.Test.YtfflfahhfhnkdaaBitEnc
import Derived.Test.YtfflfahhfhnkdaaBytesEq
namespace Go.Proofs.Ytfflfahhfhnkdaa
open Go.RowKit

theorem bit_e1 : ebL [160] 5 = [5, 160] ∧ ebC [160] 5 = 0 := by decide +kernel
theorem bit_e2 : enL 5 9 = [5, 160] ∧ enC 5 9 = 0 := by decide +kernel
theorem bit_e3 : enL 256 9 = [7, 0, 128] ∧ enC 256 9 = 0 := by decide +kernel
theorem bit_e4 : dnC [4, 160] 9 = 6 := by decide +kernel
theorem bit_e5 : bitsOf [5, 161] = ([], 0) ∧ dbC [5, 161] = 6 := by decide +kernel
theorem bit_e6 : lenB [160] 5 = 3 ∧ atB [160] 5 2 = true ∧ atB [160] 5 1 = false := by decide +kernel

set_option maxRecDepth 100000 in
set_option maxHeartbeats 4000000 in
theorem awakeBit_any (w : World) : Calls Try.prog 9 #[] w fun e w' => e = .returned (.bool true) ∧ Below w.heap.size w w' := by
  obtain ⟨A, hA⟩ : ∃ A, w.heap.size = A := ⟨_, rfl⟩
  have L0 : Hid (Bs (w.alloc (.cells #[.int .u8 160] 5)) (some ⟨A, 0, none⟩) 1 1 [160]) := bs_lit_at hA rfl rfl (by decide)
  have H1 := Lib.hid (fun (w : World) (h : Bs w (some ⟨A, 0, none⟩) 1 1 [160]) => benc_any h 5 (by omega))
  have H2 := Lib.hid (fun w => encn_any w 5 9 (by omega))
  have H3 := Lib.hid (fun w => encn_any w 256 9 (by omega))
  have H4 := Lib.hid (fun (w : World) H (h : w.heap.size = H) => decn_any (bs_lit_at (e := 5) (cs := #[.int .u8 4, .int .u8 160]) (l := [4, 160]) (n := 2) h rfl rfl (by decide)) (by omega) 9)
  have H5 := Lib.hid (fun (w : World) H (h : w.heap.size = H) => bdec_any (bs_lit_at (e := 5) (cs := #[.int .u8 5, .int .u8 161]) (l := [5, 161]) (n := 2) h rfl rfl (by decide)) (by omega))
  have H6 := Lib.hid (fun (w : World) (h : Bs w (some ⟨A, 0, none⟩) 1 1 [160]) => blen_any h 5 (by omega))
  have H7 := Lib.hid (fun (w : World) (h : Bs w (some ⟨A, 0, none⟩) 1 1 [160]) => bat_any h 5 (by omega) 2)
  have H8 := Lib.hid (fun (w : World) (h : Bs w (some ⟨A, 0, none⟩) 1 1 [160]) => bat_any h 5 (by omega) 1)
  rw [bit_e1.1, bit_e1.2] at H1
  rw [bit_e2.1, bit_e2.2] at H2
  rw [bit_e3.1, bit_e3.2] at H3
  rw [bit_e4] at H4
  rw [bit_e5.1, bit_e5.2] at H5
  rw [bit_e6.1] at H6
  rw [bit_e6.2.1] at H7
  rw [bit_e6.2.2] at H8
  unfold bV at H1 H5 H6 H7 H8
  simp only [List.length_cons, List.length_nil, Nat.zero_add, Nat.reduceAdd] at H1 H2 H3
  have L1 := Lib.hid (L0.out.alloc (.cells #[.slice (some ⟨A, 0, none⟩) 1 1, .int .i64 5] 24))
  have Z1 : Hid (Blk ((w.alloc (.cells #[.int .u8 160] 5)).alloc (.cells #[.slice (some ⟨A, 0, none⟩) 1 1, .int .i64 5] 24)) (A + 1) 24 #[.slice (some ⟨A, 0, none⟩) 1 1, .int .i64 5]) := by
    have h := Blk.new (w.alloc (.cells #[.int .u8 160] 5)) 24 #[.slice (some ⟨A, 0, none⟩) 1 1, .int .i64 5]
    rw [show (w.alloc (.cells #[.int .u8 160] 5)).heap.size = A + 1 by simp [hA]] at h
    exact h
  have Q1 := Lib.hid (bal (bal (Below.refl _ w) (.cells #[.int .u8 160] 5)) (.cells #[.slice (some ⟨A, 0, none⟩) 1 1, .int .i64 5] 24))
  go_enter Try.func9, Try.ntmps9
  go_wp2_with fail
  generalize (w.alloc (.cells #[.int .u8 160] 5)).alloc (.cells #[.slice (some ⟨A, 0, none⟩) 1 1, .int .i64 5] 24) = w1 at *
  clear hA
  obtain ⟨z0, z1, zl, zf⟩ := Z1.out.cells2


  with_reducible refine (H1.out _ L1.out).mono ?_
  rintro e w2 ⟨a2, c2, rfl, ho, q⟩
  have Q2 := Lib.hid (bthen Q1.out q)
  have L2 := Lib.hid (L1.out.below q)
  have Z2 := Lib.hid (Z1.out.below q zl)
  have C2 := Lib.hid ho.bs
  clear q z0 z1 zl zf ho
  obtain ⟨z0, z1, zl, zf⟩ := Z2.out.cells2
  go_wp2_with fail

  with_reducible refine (H2.out _).mono ?_
  rintro e w3 ⟨a3, c3, rfl, ho, q⟩
  have Q3 := Lib.hid (bthen Q2.out q)
  have L3 := Lib.hid (L2.out.below q)
  have Z3 := Lib.hid (Z2.out.below q zl)
  have C3 := Lib.hid (C2.out.below q)
  have D3 := Lib.hid ho.bs
  clear q z0 z1 zl zf ho
  obtain ⟨z0, z1, zl, zf⟩ := Z3.out.cells2
  go_wp2_with fail

  with_reducible refine (H3.out _).mono ?_
  rintro e w4 ⟨a4, c4, rfl, ho, q⟩
  have Q4 := Lib.hid (bthen Q3.out q)
  have L4 := Lib.hid (L3.out.below q)
  have Z4 := Lib.hid (Z3.out.below q zl)
  have C4 := Lib.hid (C3.out.below q)
  have D4 := Lib.hid (D3.out.below q)
  have X4 := Lib.hid ho.bs
  clear q z0 z1 zl zf ho
  obtain ⟨z0, z1, zl, zf⟩ := Z4.out.cells2
  go_wp2_with fail
  have hc4 := H4.out w4 _ rfl
  with_reducible refine (hc4).mono ?_
  rintro e w5 ⟨rfl, q⟩
  have Q5 := Lib.hid (bthen (bal Q4.out _) q)
  have L5 := Lib.hid ((L4.out.alloc _).below q)
  have Z5 := Lib.hid ((Z4.out.alloc _).below q (by simp; omega))
  have C5 := Lib.hid ((C4.out.alloc _).below q)
  have D5 := Lib.hid ((D4.out.alloc _).below q)
  have X5 := Lib.hid ((X4.out.alloc _).below q)
  clear q z0 z1 zl zf
  obtain ⟨z0, z1, zl, zf⟩ := Z5.out.cells2
  go_wp2_with fail
  have hc5 := H5.out w5 _ rfl
  with_reducible refine (hc5).mono ?_
  rintro e w6 ⟨a6, c6, rfl, _, q⟩
  have Q6 := Lib.hid (bthen (bal Q5.out _) q)
  have L6 := Lib.hid ((L5.out.alloc _).below q)
  have Z6 := Lib.hid ((Z5.out.alloc _).below q (by simp; omega))
  have C6 := Lib.hid ((C5.out.alloc _).below q)
  have D6 := Lib.hid ((D5.out.alloc _).below q)
  have X6 := Lib.hid ((X5.out.alloc _).below q)
  clear q z0 z1 zl zf
  obtain ⟨z0, z1, zl, zf⟩ := Z6.out.cells2
  go_wp2_with fail
  have hs7 : (w6.alloc (.cells #[.slice a6 0 c6, .int .i64 0] 24)).heap.size = w6.heap.size + 1 := by simp
  have T7 : Hid (Bs ((w6.alloc (.cells #[.slice a6 0 c6, .int .i64 0] 24)).alloc (.cells #[.int .u8 5, .int .u8 160] 5)) (some ⟨w6.heap.size + 1, 0, none⟩) 2 2 [5, 160]) := bs_lit_at hs7 rfl rfl (by decide)
  have L7 := Lib.hid ((L6.out.alloc (.cells #[.slice a6 0 c6, .int .i64 0] 24)).alloc (.cells #[.int .u8 5, .int .u8 160] 5))
  have Z7 := Lib.hid ((Z6.out.alloc (.cells #[.slice a6 0 c6, .int .i64 0] 24)).alloc (.cells #[.int .u8 5, .int .u8 160] 5))
  have C7 := Lib.hid ((C6.out.alloc (.cells #[.slice a6 0 c6, .int .i64 0] 24)).alloc (.cells #[.int .u8 5, .int .u8 160] 5))
  have D7 := Lib.hid ((D6.out.alloc (.cells #[.slice a6 0 c6, .int .i64 0] 24)).alloc (.cells #[.int .u8 5, .int .u8 160] 5))
  have X7 := Lib.hid ((X6.out.alloc (.cells #[.slice a6 0 c6, .int .i64 0] 24)).alloc (.cells #[.int .u8 5, .int .u8 160] 5))
  have Q7 := Lib.hid (bal (bal Q6.out (.cells #[.slice a6 0 c6, .int .i64 0] 24)) (.cells #[.int .u8 5, .int .u8 160] 5))
  clear hs7 z0 z1 zl zf
  generalize (w6.alloc (.cells #[.slice a6 0 c6, .int .i64 0] 24)).alloc (.cells #[.int .u8 5, .int .u8 160] 5) = w7 at *
  have hb7 := bytes_any C7.out T7.out
  rw [eqB_self] at hb7
  with_reducible refine hb7.mono ?_
  rintro e w8 ⟨rfl, rfl⟩
  clear hb7
  have hb8 := bytes_any D7.out C7.out
  rw [eqB_self] at hb8
  go_wp2_with fail
  with_reducible refine hb8.mono ?_
  rintro e w8 ⟨rfl, rfl⟩
  clear hb8
  go_wp2_with fail
  have T8 : Hid (Bs (w7.alloc (.cells #[.int .u8 7, .int .u8 0, .int .u8 128] 5)) (some ⟨w7.heap.size, 0, none⟩) 3 3 [7, 0, 128]) := bs_lit_at rfl rfl rfl (by decide)
  have L8 := Lib.hid (L7.out.alloc (.cells #[.int .u8 7, .int .u8 0, .int .u8 128] 5))
  have Z8 := Lib.hid (Z7.out.alloc (.cells #[.int .u8 7, .int .u8 0, .int .u8 128] 5))
  have X8 := Lib.hid (X7.out.alloc (.cells #[.int .u8 7, .int .u8 0, .int .u8 128] 5))
  have Q8 := Lib.hid (bal Q7.out (.cells #[.int .u8 7, .int .u8 0, .int .u8 128] 5))
  generalize w7.alloc (.cells #[.int .u8 7, .int .u8 0, .int .u8 128] 5) = w8 at *
  have hb9 := bytes_any X8.out T8.out
  rw [eqB_self] at hb9
  with_reducible refine hb9.mono ?_
  rintro e w9 ⟨rfl, rfl⟩
  clear hb9
  obtain ⟨z0, z1, zl, zf⟩ := Z8.out.cells2
  go_wp2_with fail

  with_reducible refine (H6.out _ L8.out).mono ?_
  rintro e w9 ⟨rfl, q⟩
  have Q9 := Lib.hid (bthen Q8.out q)
  have L9 := Lib.hid (L8.out.below q)
  have Z9 := Lib.hid (Z8.out.below q zl)
  clear q z0 z1 zl zf
  obtain ⟨z0, z1, zl, zf⟩ := Z9.out.cells2
  go_wp2_with fail

  with_reducible refine (H7.out _ L9.out).mono ?_
  rintro e w10 ⟨rfl, q⟩
  have Q10 := Lib.hid (bthen Q9.out q)
  have L10 := Lib.hid (L9.out.below q)
  have Z10 := Lib.hid (Z9.out.below q zl)
  clear q z0 z1 zl zf
  obtain ⟨z0, z1, zl, zf⟩ := Z10.out.cells2
  go_wp2_with fail

  with_reducible refine (H8.out _ L10.out).mono ?_
  rintro e w11 ⟨rfl, q⟩
  have Q11 := Lib.hid (bthen Q10.out q)
  have L11 := Lib.hid (L10.out.below q)
  have Z11 := Lib.hid (Z10.out.below q zl)
  clear q z0 z1 zl zf
  obtain ⟨z0, z1, zl, zf⟩ := Z11.out.cells2
  go_wp2_with fail
  go_ret
  exact ⟨rfl, Q11.out⟩
end Go.Proofs.Ytfflfahhfhnkdaa
