/-
  Contract of awake (the law's fixed examples), stage 4.
-/
import Derived.Test.YtammegdfjgphkaaDoorIntBool
import Derived.Test.YtammegdfjgphkaaDoorIntInt
import Derived.Test.YtammegdfjgphkaaDoorIntFrom
import Derived.Test.YtammegdfjgphkaaDoorIntDecW
import Derived.Test.YtammegdfjgphkaaDoorBytesEq
namespace Go.Proofs.YtammegdfjgphkaaDoor
open Go.RowKit

theorem int_ex1 : boV [255] = true ∧ boC [255] = 0 := bo_true
theorem int_ex2 : intV [255, 127] = -129 ∧ intB [255, 127] = true := by decide
theorem int_ex3 : senc 128 = [0, 128] := by
  rw [senc_big (by omega), senc_small (by omega)]
  rfl
theorem int_ex4 : senc (-128) = [128] := by
  rw [senc_small (by omega)]
  rfl
theorem int_ex5 : vI [0, 127] = false ∧ vI [255, 128] = false := by decide
theorem int_ex6 : senc (bnum [255] : Int) = [0, 255] := by
  have e : (bnum [255] : Int) = 255 := by decide
  rw [e, senc_big (by omega), senc_small (by omega)]
  rfl
theorem int_ex7 : decS [1, 0] = [50, 53, 54] := by
  have e : sval [1, 0] = ((256 : Nat) : Int) := by decide
  show (if vI [1, 0] = true then _ else _) = _
  rw [if_pos (show vI [1, 0] = true by decide), e, decI_nat, decN_big (by omega), decN_big (by omega), decN_small (by omega)]
  rfl

set_option maxRecDepth 100000 in
set_option maxHeartbeats 2000000 in
theorem awakeInt_any (w : World) : Calls Tryd.prog 9 #[] w fun e w' => e = .returned (.bool true) ∧ Below w.heap.size w w' := by
  have H1 := Lib.hid (fun (w : World) H (h : w.heap.size = H) => boolean_any (bs_lit_at (e := 5) (cs := #[.int .u8 255]) (l := [255]) (n := 1) h rfl rfl (by decide)))
  rw [int_ex1.1, int_ex1.2] at H1
  have H2 := Lib.hid (fun (w : World) H (h : w.heap.size = H) => int_any (bs_lit_at (e := 5) (cs := #[.int .u8 255, .int .u8 127]) (l := [255, 127]) (n := 2) h rfl rfl (by decide)))
  rw [int_ex2.1, int_ex2.2] at H2
  have H3 := Lib.hid (fun w => fromInt_any (n := 128) (by omega) (by omega) w)
  rw [int_ex3] at H3
  simp only [List.length_cons, List.length_nil, Nat.zero_add, Nat.reduceAdd] at H3
  have H4 := Lib.hid (fun w => fromInt_any (n := -128) (by omega) (by omega) w)
  rw [int_ex4] at H4
  simp only [List.length_cons, List.length_nil, Nat.zero_add] at H4
  have H5 := Lib.hid (fun (w : World) H (h : w.heap.size = H) => valid_any (bs_lit_at (e := 5) (cs := #[.int .u8 0, .int .u8 127]) (l := [0, 127]) (n := 2) h rfl rfl (by decide)))
  rw [int_ex5.1] at H5
  have H6 := Lib.hid (fun (w : World) H (h : w.heap.size = H) => valid_any (bs_lit_at (e := 5) (cs := #[.int .u8 255, .int .u8 128]) (l := [255, 128]) (n := 2) h rfl rfl (by decide)))
  rw [int_ex5.2] at H6
  have H7 := Lib.hid (fun (w : World) H (h : w.heap.size = H) => fromUnsigned_any (bs_lit_at (e := 5) (cs := #[.int .u8 255]) (l := [255]) (n := 1) h rfl rfl (by decide)) (by omega))
  rw [int_ex6] at H7
  simp only [List.length_cons, List.length_nil, Nat.zero_add, Nat.reduceAdd] at H7
  have H8 := Lib.hid (fun (w : World) H (h : w.heap.size = H) => dec_any (bs_lit_at (e := 5) (cs := #[.int .u8 1, .int .u8 0]) (l := [1, 0]) (n := 2) h rfl rfl (by decide)) (by omega))
  rw [int_ex7] at H8
  go_enter Tryd.func9, Tryd.ntmps9
  go_wp2_with fail
  with_reducible refine (H1.out _ _ (by simp)).mono ?_
  rintro e w1 ⟨rfl, q⟩
  have Q1 := Lib.hid (bthen (bal (Below.refl _ w) _) q)
  clear q H1
  go_wp2_with fail
  with_reducible refine (H2.out _ _ (by simp)).mono ?_
  rintro e w2 ⟨rfl, rfl⟩
  go_wp2_with fail
  with_reducible refine (H3.out _).mono ?_
  rintro e w3 ⟨a3, c3, rfl, hb3, q⟩
  have Q3 := Lib.hid (bthen (bal Q1.out _) q)
  clear q H3 H2 Q1
  go_wp2_with fail
  with_reducible refine (bytes_any (hb3.alloc _) (bs_lit_at (e := 5) (cs := #[.int .u8 0, .int .u8 128]) (l := [0, 128]) (n := 2) (by simp) rfl rfl (by decide))).mono ?_
  rintro e w4 ⟨rfl, rfl⟩
  rw [eqB_self]
  clear hb3
  go_wp2_with fail
  with_reducible refine (H4.out _).mono ?_
  rintro e w5 ⟨a5, c5, rfl, hb5, q⟩
  have Q5 := Lib.hid (bthen (bal Q3.out _) q)
  clear q H4 Q3
  go_wp2_with fail
  with_reducible refine (bytes_any (hb5.alloc _) (bs_lit_at (e := 5) (cs := #[.int .u8 128]) (l := [128]) (n := 1) (by simp) rfl rfl (by decide))).mono ?_
  rintro e w6 ⟨rfl, rfl⟩
  rw [eqB_self]
  clear hb5
  go_wp2_with fail
  with_reducible refine (H5.out _ _ (by simp)).mono ?_
  rintro e w7 ⟨rfl, rfl⟩
  go_wp2_with fail
  with_reducible refine (H6.out _ _ (by simp)).mono ?_
  rintro e w8 ⟨rfl, rfl⟩
  go_wp2_with fail
  with_reducible refine (H7.out _ _ (by simp)).mono ?_
  rintro e w9 ⟨a9, c9, rfl, hb9, _, q⟩
  have Q9 := Lib.hid (bthen (bal (bal (bal (bal Q5.out _) _) _) _) q)
  clear q H5 H6 H7 Q5
  go_wp2_with fail
  with_reducible refine (bytes_any (hb9.alloc _) (bs_lit_at (e := 5) (cs := #[.int .u8 0, .int .u8 255]) (l := [0, 255]) (n := 2) (by simp) rfl rfl (by decide))).mono ?_
  rintro e wA ⟨rfl, rfl⟩
  rw [eqB_self]
  clear hb9
  go_wp2_with fail
  with_reducible refine (H8.out _ _ (by simp)).mono ?_
  rintro e wB ⟨rfl, q⟩
  have QB := Lib.hid (bthen (bal (bal Q9.out _) _) q)
  clear q H8 Q9
  go_wp2_with fail
  go_ret
  exact ⟨rfl, QB.out⟩
end Go.Proofs.YtammegdfjgphkaaDoor
