/-
  Contract of awake (the law's fixed examples), stage 7.
-/
import Derived.Test.YtkmpmphabohkkaaDoorChDecP
import Derived.Test.YtkmpmphabohkkaaDoorChKindsP
import Derived.Test.YtkmpmphabohkkaaDoorChDec
namespace Go.Proofs.YtkmpmphabohkkaaDoor
open Go.RowKit

theorem cha_1 : teL 12 [65, 195, 169] = [65, 195, 169] ∧ teC 12 [65, 195, 169] = 0 := by decide +kernel
theorem cha_2 : teL 20 [65, 195, 169] = [65, 233] ∧ teC 20 [65, 195, 169] = 0 := by decide +kernel
theorem cha_3 : teL 30 [65, 195, 169] = [0, 65, 0, 233] ∧ teC 30 [65, 195, 169] = 0 := by decide +kernel
theorem cha_4 : teL 19 [65, 195, 169] = [] ∧ teC 19 [65, 195, 169] = 8 := by decide +kernel
theorem cha_5 : bstK [97, 64, 98] = 12 ∧ bstC [97, 64, 98] = 0 := by decide +kernel
theorem cha_6 : foldT [32, 32, 65, 32, 32, 98, 32] = [97, 32, 98] := by decide +kernel

set_option maxRecDepth 100000 in
set_option maxHeartbeats 4000000 in
theorem awakeCh_any (w : World) (hW : Wd w) : Calls Tryd.prog 8 #[] w fun e w' => e = .returned (.bool true) ∧ Below w.heap.size w w' := by
  have H1 := Lib.hid (fun w hw => tenc_any 12 [65, 195, 169] (by decide) w hw)
  have H2 := Lib.hid (fun w hw => tenc_any 20 [65, 195, 169] (by decide) w hw)
  have H3 := Lib.hid (fun w hw => tenc_any 30 [65, 195, 169] (by decide) w hw)
  have H4 := Lib.hid (fun w hw => tenc_any 19 [65, 195, 169] (by decide) w hw)
  have H5 := Lib.hid (fun w hw => best_any [97, 64, 98] (by decide) w hw)
  have H6 := Lib.hid (fun w => fold7_any [32, 32, 65, 32, 32, 98, 32] (by decide) w)
  rw [cha_1.1, cha_1.2] at H1
  rw [cha_2.1, cha_2.2] at H2
  rw [cha_3.1, cha_3.2] at H3
  rw [cha_4.1, cha_4.2] at H4
  rw [cha_5.1, cha_5.2] at H5
  rw [cha_6] at H6
  unfold tV at H1 H2 H3 H4 H5
  simp only [List.length_cons, List.length_nil, Nat.zero_add, Nat.reduceAdd] at H1 H2 H3 H4
  have hq0 := Lib.hid (Below.refl w.heap.size w)
  go_enter Tryd.func8, Tryd.ntmps8
  go_wp2_with fail
  refine (H1.out _ hW).mono ?_
  rintro e w1 ⟨a1, c1, rfl, ho, q⟩
  have Q1 := Lib.hid (bthen hq0.out q)
  have C1 := Lib.hid ho
  clear q ho
  go_wp2_with fail
  refine (H2.out _ (hW.below Q1.out)).mono ?_
  rintro e w2 ⟨a2, c2, rfl, ho, q⟩
  have Q2 := Lib.hid (bthen Q1.out q)
  have C2 := Lib.hid (C1.out.below q)
  have D2 := Lib.hid ho
  clear q ho
  go_wp2_with fail
  refine (H3.out _ (hW.below Q2.out)).mono ?_
  rintro e w3 ⟨a3, c3, rfl, ho, q⟩
  have Q3 := Lib.hid (bthen Q2.out q)
  have C3 := Lib.hid (C2.out.below q)
  have D3 := Lib.hid (D2.out.below q)
  have E3 := Lib.hid ho
  clear q ho
  go_wp2_with fail
  refine (H4.out _ (hW.below Q3.out)).mono ?_
  rintro e w4 ⟨a4, c4, rfl, ho, q⟩
  have Q4 := Lib.hid (bthen Q3.out q)
  have C4 := Lib.hid (C3.out.below q)
  have D4 := Lib.hid (D3.out.below q)
  have E4 := Lib.hid (E3.out.below q)
  clear q ho
  go_wp2_with fail
  refine (H5.out _ (hW.below Q4.out)).mono ?_
  rintro e w5 ⟨rfl, q⟩
  have Q5 := Lib.hid (bthen Q4.out q)
  have C5 := Lib.hid (C4.out.below q)
  have D5 := Lib.hid (D4.out.below q)
  have E5 := Lib.hid (E4.out.below q)
  clear q
  generalize bstS [97, 64, 98] = bs at *
  go_wp2_with fail
  have hs6 : (w5.alloc (.cells #[.int .i64 12, .string ⟨bs.toArray⟩] 23)).heap.size = w5.heap.size + 1 := by simp
  have T6 : Hid (Bs ((w5.alloc (.cells #[.int .i64 12, .string ⟨bs.toArray⟩] 23)).alloc (.cells #[.int .u8 65, .int .u8 195, .int .u8 169] 5)) (some ⟨w5.heap.size + 1, 0, none⟩) 3 3 [65, 195, 169]) := bs_lit_at hs6 rfl rfl (by decide)
  have C6 := Lib.hid ((C5.out.alloc (.cells #[.int .i64 12, .string ⟨bs.toArray⟩] 23)).alloc (.cells #[.int .u8 65, .int .u8 195, .int .u8 169] 5))
  have D6 := Lib.hid ((D5.out.alloc (.cells #[.int .i64 12, .string ⟨bs.toArray⟩] 23)).alloc (.cells #[.int .u8 65, .int .u8 195, .int .u8 169] 5))
  have E6 := Lib.hid ((E5.out.alloc (.cells #[.int .i64 12, .string ⟨bs.toArray⟩] 23)).alloc (.cells #[.int .u8 65, .int .u8 195, .int .u8 169] 5))
  have Q6 := Lib.hid (bal (bal Q5.out (.cells #[.int .i64 12, .string ⟨bs.toArray⟩] 23)) (.cells #[.int .u8 65, .int .u8 195, .int .u8 169] 5))
  clear hs6
  generalize (w5.alloc (.cells #[.int .i64 12, .string ⟨bs.toArray⟩] 23)).alloc (.cells #[.int .u8 65, .int .u8 195, .int .u8 169] 5) = w6 at *
  have hb1 := bytes_any C6.out T6.out
  rw [eqB_self] at hb1
  with_reducible refine hb1.mono ?_
  rintro e w' ⟨rfl, rfl⟩
  clear hb1
  go_wp2_with fail
  have T7 : Hid (Bs (w6.alloc (.cells #[.int .u8 65, .int .u8 233] 5)) (some ⟨w6.heap.size, 0, none⟩) 2 2 [65, 233]) := bs_lit_at rfl rfl rfl (by decide)
  have D7 := Lib.hid (D6.out.alloc (.cells #[.int .u8 65, .int .u8 233] 5))
  have E7 := Lib.hid (E6.out.alloc (.cells #[.int .u8 65, .int .u8 233] 5))
  have Q7 := Lib.hid (bal Q6.out (.cells #[.int .u8 65, .int .u8 233] 5))
  generalize w6.alloc (.cells #[.int .u8 65, .int .u8 233] 5) = w7 at *
  have hb1 := bytes_any D7.out T7.out
  rw [eqB_self] at hb1
  with_reducible refine hb1.mono ?_
  rintro e w' ⟨rfl, rfl⟩
  clear hb1
  go_wp2_with fail
  have T8 : Hid (Bs (w7.alloc (.cells #[.int .u8 0, .int .u8 65, .int .u8 0, .int .u8 233] 5)) (some ⟨w7.heap.size, 0, none⟩) 4 4 [0, 65, 0, 233]) := bs_lit_at rfl rfl rfl (by decide)
  have E8 := Lib.hid (E7.out.alloc (.cells #[.int .u8 0, .int .u8 65, .int .u8 0, .int .u8 233] 5))
  have Q8 := Lib.hid (bal Q7.out (.cells #[.int .u8 0, .int .u8 65, .int .u8 0, .int .u8 233] 5))
  generalize w7.alloc (.cells #[.int .u8 0, .int .u8 65, .int .u8 0, .int .u8 233] 5) = w8 at *
  have hb1 := bytes_any E8.out T8.out
  rw [eqB_self] at hb1
  with_reducible refine hb1.mono ?_
  rintro e w' ⟨rfl, rfl⟩
  clear hb1
  go_wp2_with fail
  refine (H6.out _).mono ?_
  rintro e w9 ⟨rfl, q⟩
  have Q9 := Lib.hid (bthen Q8.out q)
  clear q
  go_wp2_with fail
  go_ret
  exact ⟨rfl, Q9.out⟩
end Go.Proofs.YtkmpmphabohkkaaDoor
