/-
  Contract of awake (the law's fixed examples), stage 5.
-/
import Derived.Test.YtepicefbpadbhaaDoorOidEnc
import Derived.Test.YtepicefbpadbhaaDoorOidDec
import Derived.Test.YtepicefbpadbhaaDoorOidOrd
import Derived.Test.YtepicefbpadbhaaDoorBytesEq
namespace Go.Proofs.YtepicefbpadbhaaDoor
open Go.RowKit

theorem dec1 : decN 1 = [49] := by rw [decN_small (by omega)]; rfl
theorem dec2 : decN 2 = [50] := by rw [decN_small (by omega)]; rfl
theorem dec5 : decN 5 = [53] := by rw [decN_small (by omega)]; rfl
theorem dec15 : decN 15 = [49, 53] := by rw [decN_big (by omega), decN_small (by omega)]; rfl
theorem dec29 : decN 29 = [50, 57] := by rw [decN_big (by omega), decN_small (by omega)]; rfl
theorem dec840 : decN 840 = [56, 52, 48] := by rw [decN_big (by omega), decN_big (by omega), decN_small (by omega)]; rfl
theorem dec999 : decN 999 = [57, 57, 57] := by rw [decN_big (by omega), decN_big (by omega), decN_small (by omega)]; rfl
theorem dec113549 : decN 113549 = [49, 49, 51, 53, 52, 57] := by
  rw [decN_big (by omega), decN_big (by omega), decN_big (by omega), decN_big (by omega), decN_big (by omega), decN_small (by omega)]
  rfl
theorem oid_t1 : textO [1, 2, 840, 113549] = [49, 46, 50, 46, 56, 52, 48, 46, 49, 49, 51, 53, 52, 57] := by
  simp only [textO, List.map_cons, List.map_nil, dec1, dec2, dec840, dec113549]
  rfl
theorem oid_t2 : textO [2, 999] = [50, 46, 57, 57, 57] := by
  simp only [textO, List.map_cons, List.map_nil, dec2, dec999]
  rfl
theorem oid_t3 : textO [2, 5, 29, 15] = [50, 46, 53, 46, 50, 57, 46, 49, 53] := by
  simp only [textO, List.map_cons, List.map_nil, dec2, dec5, dec29, dec15]
  rfl
theorem oid_o1 : okO [1, 2, 840, 113549] := ⟨by decide, by decide⟩
theorem oid_o2 : okO [2, 999] := ⟨by decide, by decide⟩
theorem oid_o3 : okO [2, 5, 29, 15] := ⟨by decide, by decide⟩
theorem sub840 : subO 840 true = [134, 72] := by rw [subO_big (by omega), subO_small (by omega)]; rfl
theorem sub113549 : subO 113549 true = [134, 247, 13] := by rw [subO_big (by omega), subO_big (by omega), subO_small (by omega)]; rfl
theorem sub1079 : subO 1079 true = [136, 55] := by rw [subO_big (by omega), subO_small (by omega)]; rfl
theorem oid_e1 : encO [1, 2, 840, 113549] = [42, 134, 72, 134, 247, 13] := by
  have h : subO 42 true = [42] := by rw [subO_small (by omega)]; rfl
  show subO 42 true ++ (subO 840 true ++ (subO 113549 true ++ [])) = _
  rw [h, sub840, sub113549]
  rfl
theorem oid_e2 : encO [2, 999] = [136, 55] := by
  show subO 1079 true ++ [] = _
  rw [sub1079]
  rfl
theorem oid_e3 : encO [2, 5, 29, 15] = [85, 29, 15] := by
  show subO 85 true ++ (subO 29 true ++ (subO 15 true ++ [])) = _
  rw [subO_small (show 85 < 128 by omega), subO_small (show 29 < 128 by omega), subO_small (show 15 < 128 by omega)]
  rfl
theorem oid_a1 : eC [49, 46, 50, 46, 56, 52, 48, 46, 49, 49, 51, 53, 52, 57] = 0 ∧ eL [49, 46, 50, 46, 56, 52, 48, 46, 49, 49, 51, 53, 52, 57] = [42, 134, 72, 134, 247, 13] := by
  have h := e_some (arcs_text oid_o1)
  rw [oid_t1, oid_e1] at h
  exact h
theorem oid_a2 : eC [50, 46, 57, 57, 57] = 0 ∧ eL [50, 46, 57, 57, 57] = [136, 55] := by
  have h := e_some (arcs_text oid_o2)
  rw [oid_t2, oid_e2] at h
  exact h
theorem oid_a3 : dC [85, 29, 15] = 0 ∧ dT [85, 29, 15] = [50, 46, 53, 46, 50, 57, 46, 49, 53] := by
  have h := d_some (dec_of oid_o3 oid_e3)
  rw [oid_t3] at h
  exact h
theorem oid_a4 : dC [128, 1] = 6 := (d_none (dec_prog_none (by decide))).1
theorem oid_a5 : dC [42, 134] = 6 := (d_none (dec_prog_none (by decide))).1
theorem oid_a6 : valO [50, 46, 53, 46, 50, 57, 46, 49, 53] = true := by
  have h := val_some (arcs_text oid_o3)
  rw [oid_t3] at h
  exact h

set_option maxRecDepth 100000 in
set_option maxHeartbeats 4000000 in
theorem awakeOid_any (w : World) (hW : Wd w) : Calls Tryd.prog 8 #[] w fun e w' => e = .returned (.bool true) ∧ Below w.heap.size w w' := by
  have HW := Lib.hid (fun w' (h : Below w.heap.size w w') => hW.below h)
  have H1 := Lib.hid (encode_any w hW [49, 46, 50, 46, 56, 52, 48, 46, 49, 49, 51, 53, 52, 57] (by decide))
  rw [oid_a1.1, oid_a1.2] at H1
  have H2 := Lib.hid (fun w' (h : Wd w') => encode_any w' h [50, 46, 57, 57, 57] (by decide))
  rw [oid_a2.1, oid_a2.2] at H2
  simp only [List.length_cons, List.length_nil, Nat.zero_add, Nat.reduceAdd] at H1 H2
  have H3 := Lib.hid (fun (w' : World) H (h : w'.heap.size = H) (hb : Wd (w'.alloc (.cells #[.int .u8 85, .int .u8 29, .int .u8 15] 5))) => decode_any hb (bs_lit_at (e := 5) (cs := #[.int .u8 85, .int .u8 29, .int .u8 15]) (l := [85, 29, 15]) (n := 3) h rfl rfl (by decide)) (by omega))
  rw [oid_a3.1, oid_a3.2] at H3
  have H4 := Lib.hid (fun (w' : World) H (h : w'.heap.size = H) (hb : Wd (w'.alloc (.cells #[.int .u8 128, .int .u8 1] 5))) => decode_any hb (bs_lit_at (e := 5) (cs := #[.int .u8 128, .int .u8 1]) (l := [128, 1]) (n := 2) h rfl rfl (by decide)) (by omega))
  rw [oid_a4] at H4
  have H5 := Lib.hid (fun (w' : World) H (h : w'.heap.size = H) (hb : Wd (w'.alloc (.cells #[.int .u8 42, .int .u8 134] 5))) => decode_any hb (bs_lit_at (e := 5) (cs := #[.int .u8 42, .int .u8 134]) (l := [42, 134]) (n := 2) h rfl rfl (by decide)) (by omega))
  rw [oid_a5] at H5
  have H6 := Lib.hid (fun w' (h : Wd w') => valid_any w' h [50, 46, 53, 46, 50, 57, 46, 49, 53] (by decide))
  rw [oid_a6] at H6
  generalize dT [128, 1] = T4 at *
  generalize dT [42, 134] = T5 at *
  go_enter Tryd.func8, Tryd.ntmps8
  go_wp2_with fail
  with_reducible refine H1.out.mono ?_
  rintro e w1 ⟨a1, c1, rfl, ho1, q⟩
  have Q1 := Lib.hid q
  have B1 := Lib.hid ho1.bs
  clear q ho1 H1
  go_wp2_with fail
  with_reducible refine (H2.out _ (HW.out _ Q1.out)).mono ?_
  rintro e w2 ⟨a2, c2, rfl, ho2, q⟩
  have Q2 := Lib.hid (bthen Q1.out q)
  have A2 := Lib.hid (B1.out.below q)
  have B2 := Lib.hid ho2.bs
  clear q ho2 H2 B1 Q1
  go_wp2_with fail
  with_reducible refine (H3.out _ _ (by simp) (HW.out _ (bal Q2.out _))).mono ?_
  rintro e w3 ⟨rfl, q⟩
  have Q3 := Lib.hid (bthen (bal Q2.out _) q)
  have A3 := Lib.hid ((A2.out.alloc _).below q)
  have B3 := Lib.hid ((B2.out.alloc _).below q)
  clear q H3 A2 B2 Q2
  go_wp2_with fail
  with_reducible refine (H4.out _ _ (by simp) (HW.out _ (bal Q3.out _))).mono ?_
  rintro e w4 ⟨rfl, q⟩
  have Q4 := Lib.hid (bthen (bal Q3.out _) q)
  have A4 := Lib.hid ((A3.out.alloc _).below q)
  have B4 := Lib.hid ((B3.out.alloc _).below q)
  clear q H4 A3 B3 Q3
  go_wp2_with fail
  with_reducible refine (H5.out _ _ (by simp) (HW.out _ (bal Q4.out _))).mono ?_
  rintro e w5 ⟨rfl, q⟩
  have Q5 := Lib.hid (bthen (bal Q4.out _) q)
  have A5 := Lib.hid ((A4.out.alloc _).below q)
  have B5 := Lib.hid ((B4.out.alloc _).below q)
  clear q H5 A4 B4 Q4
  go_wp2_with fail
  with_reducible refine (bytes_any (A5.out.alloc _) (bs_lit_at (e := 5) (cs := #[.int .u8 42, .int .u8 134, .int .u8 72, .int .u8 134, .int .u8 247, .int .u8 13]) (l := [42, 134, 72, 134, 247, 13]) (n := 6) (by simp) rfl rfl (by decide))).mono ?_
  rintro e w6 ⟨rfl, rfl⟩
  rw [eqB_self]
  go_wp2_with fail
  with_reducible refine (bytes_any ((B5.out.alloc _).alloc _) (bs_lit_at (e := 5) (cs := #[.int .u8 136, .int .u8 55]) (l := [136, 55]) (n := 2) (by simp) rfl rfl (by decide))).mono ?_
  rintro e w7 ⟨rfl, rfl⟩
  rw [eqB_self]
  go_wp2_with fail
  with_reducible refine (H6.out _ (HW.out _ (bal (bal Q5.out _) _))).mono ?_
  rintro e w8 ⟨rfl, q⟩
  have Q8 := Lib.hid (bthen (bal (bal Q5.out _) _) q)
  clear q H6
  go_wp2_with fail
  go_ret
  exact ⟨rfl, Q8.out⟩
end Go.Proofs.YtepicefbpadbhaaDoor
