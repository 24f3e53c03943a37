/-
  Contract of awake (the law's fixed examples), stage 2.
-/
import Derived.Test.YtepdgaokaneflaaNext
import Derived.Test.YtepdgaokaneflaaEncode
import Derived.Test.YtepdgaokaneflaaBytesEq
namespace Go.Proofs.Ytepdgaokaneflaa
open Go.RowKit

theorem tlv_ex1 : ((idByte 2 3 true).toNat : Int) = 163 := by decide
theorem tlv_ex2 : lenOct 127 = [127] := by decide
theorem tlv_ex3 : lenOct 256 = [130, 1, 0] := by decide
theorem tlv_ex4 : rdLen [129, 127] = ⟨0, 0, 4, 0⟩ := by kernel_rfl
theorem tlv_ex5 : encB 0 2 false [5] = [2, 1, 5] := by decide
theorem tlv_ex6 : rdNext [2, 1, 5, 5, 0] = ⟨⟨0, 2, false, 1, 2, 0, 0⟩, [5], [5, 0]⟩ := by kernel_rfl

set_option maxRecDepth 100000 in
set_option maxHeartbeats 1000000 in
theorem awakeTlv_any (w : World) : Calls Try.prog 10 #[] w fun e w' => e = .returned (.bool true) ∧ Below w.heap.size w w' := by
  have H2 := Lib.hid (fun w => length_ok (n := 127) (by omega) w)
  have H3 := Lib.hid (fun w => length_ok (n := 256) (by omega) w)
  rw [tlv_ex2] at H2
  rw [tlv_ex3] at H3
  go_enter Try.func10, Try.ntmps10
  go_wp2_with fail
  refine (identifier_ok (c := 2) (n := 3) (by omega) (by omega) true _).mono ?_
  rintro e w1 ⟨rfl, rfl⟩
  rw [tlv_ex1]
  go_wp2_with fail
  refine (H2.out _).mono ?_
  rintro e w1 ⟨a1, c1, rfl, ho, q⟩
  have A1 := Lib.hid ho.bs
  have Q1 := Lib.hid q
  clear ho q H2
  go_wp2_with fail
  refine (H3.out _).mono ?_
  rintro e w2 ⟨a2, c2, rfl, ho, q⟩
  have A2 := Lib.hid (A1.out.below q)
  have B2 := Lib.hid ho.bs
  have Q2 := Lib.hid (bthen Q1.out q)
  clear ho q H3 A1 Q1
  have L1 := Lib.hid (bs_lit w2 5 #[.int .u8 129, .int .u8 127] [129, 127] 2 rfl rfl (by decide))
  have HR := Lib.hid (readLength_any L1.out)
  rw [tlv_ex4] at HR
  go_wp2_with fail
  refine HR.out.mono ?_
  rintro e w3 ⟨rfl, q⟩
  have A3 := Lib.hid ((A2.out.alloc _).below q)
  have B3 := Lib.hid ((B2.out.alloc _).below q)
  have Q3 := Lib.hid (bthen (bal Q2.out _) q)
  clear q HR L1 A2 B2 Q2
  have E3 := Lib.hid (Blk.new w3 35 #[.int .i64 4, .int .i64 0])
  have L2' := bs_lit (w3.alloc (.cells #[.int .i64 4, .int .i64 0] 35)) 5 #[.int .u8 5] [5] 1 rfl rfl (by decide)
  simp only [World.size_alloc] at L2'
  have L2 := Lib.hid L2'
  clear L2'
  have HE := Lib.hid (encode_ok (cl := 0) (nu := 2) (by omega) (by omega) false L2.out (by omega))
  rw [tlv_ex5] at HE
  go_wp2_with fail
  refine HE.out.mono ?_
  rintro e w4 ⟨a4, c4, rfl, ho, q⟩
  have A4 := Lib.hid (((A3.out.alloc _).alloc _).below q)
  have B4 := Lib.hid (((B3.out.alloc _).alloc _).below q)
  have C4 := Lib.hid ho.bs
  have E4 := Lib.hid ((E3.out.alloc _).below q (by simp; omega))
  have Q4 := Lib.hid (bthen (bal (bal Q3.out _) _) q)
  clear q ho HE L2 A3 B3 Q3 E3
  have L3 := Lib.hid (bs_lit w4 5 #[.int .u8 2, .int .u8 1, .int .u8 5, .int .u8 5, .int .u8 0] [2, 1, 5, 5, 0] 5 rfl rfl (by decide))
  have HN := Lib.hid (next_any L3.out (by omega))
  unfold NextPost at HN
  rw [tlv_ex6] at HN
  unfold hdV erV at HN
  go_wp2_with fail
  refine HN.out.mono ?_
  rintro e w5 ⟨a5, c5, a6, c6, rfl, ho5, ho6, _, q⟩
  have A5 := Lib.hid ((A4.out.alloc _).below q)
  have B5 := Lib.hid ((B4.out.alloc _).below q)
  have C5 := Lib.hid ((C4.out.alloc _).below q)
  have X5 := Lib.hid ho5.bs
  have Y5 := Lib.hid ho6.bs
  have E5 := (E4.out.alloc (.cells #[.int .u8 2, .int .u8 1, .int .u8 5, .int .u8 5, .int .u8 0] 5)).below q (by have := E4.out.lt; simp; omega)
  have e0 := E5.cell 0
  have e1 := E5.cell 1
  have el := E5.lt
  simp only [List.getElem?_toArray, List.getElem?_cons_zero, List.getElem?_cons_succ] at e0 e1
  have Q5 := Lib.hid (bthen (bal Q4.out _) q)
  clear q ho5 ho6 HN L3 A4 B4 C4 E4 Q4 E5
  go_wp2_with fail
  refine Calls.mono (bytes_any (xs := [127]) (ys := [127]) ?_ ?_) ?_
  · (repeat with_reducible refine Bs.alloc ?_ _); exact A5.out
  · exact bs_lit_at (by simp) rfl rfl (by decide)
  rintro e w6 ⟨rfl, rfl⟩
  rw [eqB_self]
  go_wp2_with fail
  refine Calls.mono (bytes_any (xs := [130, 1, 0]) (ys := [130, 1, 0]) ?_ ?_) ?_
  · (repeat with_reducible refine Bs.alloc ?_ _); exact B5.out
  · exact bs_lit_at (by simp) rfl rfl (by decide)
  rintro e w6 ⟨rfl, rfl⟩
  rw [eqB_self]
  go_wp2_with fail
  refine Calls.mono (bytes_any (xs := [2, 1, 5]) (ys := [2, 1, 5]) ?_ ?_) ?_
  · (repeat with_reducible refine Bs.alloc ?_ _); exact C5.out
  · exact bs_lit_at (by simp) rfl rfl (by decide)
  rintro e w6 ⟨rfl, rfl⟩
  rw [eqB_self]
  go_wp2_with fail
  refine Calls.mono (bytes_any (xs := [5]) (ys := [5]) ?_ ?_) ?_
  · (repeat with_reducible refine Bs.alloc ?_ _); exact X5.out
  · exact bs_lit_at (by simp) rfl rfl (by decide)
  rintro e w6 ⟨rfl, rfl⟩
  rw [eqB_self]
  go_wp2_with fail
  refine Calls.mono (bytes_any (xs := [5, 0]) (ys := [5, 0]) ?_ ?_) ?_
  · (repeat with_reducible refine Bs.alloc ?_ _); exact Y5.out
  · exact bs_lit_at (by simp) rfl rfl (by decide)
  rintro e w6 ⟨rfl, rfl⟩
  rw [eqB_self]
  go_wp2_with fail
  go_ret
  exact ⟨rfl, by repeat (first | with_reducible exact Q5.out | with_reducible refine bal ?_ _)⟩
end Go.Proofs.Ytepdgaokaneflaa
