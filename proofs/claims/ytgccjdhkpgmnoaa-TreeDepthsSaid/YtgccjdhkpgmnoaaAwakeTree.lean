/-
  Contract of awake (the law's fixed examples), stage 3.
-/
import Derived.Test.YtgccjdhkpgmnoaaTreeFindW
import Derived.Test.YtgccjdhkpgmnoaaTreeEncode
import Derived.Test.YtgccjdhkpgmnoaaTreeEq
import Derived.Test.YtgccjdhkpgmnoaaTreeCount
import Derived.Test.YtgccjdhkpgmnoaaBytesEq
namespace Go.Proofs.Ytgccjdhkpgmnoaa
open Go.RowKit

def exT : Tree := .node 0 16 true [] [.node 0 2 false [5] [], .node 0 17 true [] []]
theorem tree_ex1 : parseT 16 [48, 5, 2, 1, 5, 49, 0] = .ok exT 7 := by kernel_rfl
theorem tree_ex2 : parseT 16 [48, 6, 2, 1, 5, 49, 1, 0] = .err 1 8 := by kernel_rfl
theorem tree_ex3 : locT [1] exT 0 = ⟨true, 5, .node 0 17 true [] []⟩ := by kernel_rfl
theorem tree_ex4 : (encT (.node 0 17 true [] [])).length = 2 := by kernel_rfl
theorem tree_ex5 : encT exT = [48, 5, 2, 1, 5, 49, 0] := by kernel_rfl
theorem tree_ex6 : (okT exT && decide (depT exT ≤ 16)) = true := by kernel_rfl
theorem tree_ex7 : depT exT = 2 := by kernel_rfl
theorem tree_ex8 : cntT exT = 3 := by kernel_rfl
theorem tree_ex9 : sizT exT = 4 := by kernel_rfl
theorem nd_zero (w : World) : NdCs w (fun _ => True) [.int .i64 0, .int .i64 0, .bool false, .slice none 0 0, .slice none 0 0] (.node 0 0 false [] []) := ⟨none, 0, 0, none, 0, 0, rfl, BsR.nil_ _ _, Kds.nil_ _ _⟩
theorem iz_lit (w : World) (e : TypeId) (z : Int) (h : -9223372036854775808 ≤ z ∧ z ≤ 9223372036854775807) : Iz (w.alloc (.cells #[.int .i64 z] e)) (some ⟨w.heap.size, 0, none⟩) 1 1 [z] := by
  refine ⟨rfl, Nat.le_refl _, by decide, fun _ => ⟨w.heap.size, 0, rfl, by simp, fun i hi => ?_⟩, fun y hy => ?_⟩
  · simp at hi
    subst hi
    exact (Blk.new w e #[.int .i64 z]).cell 0
  · simp at hy
    subst hy
    exact h

set_option maxRecDepth 100000 in
set_option maxHeartbeats 2000000 in
theorem awakeTree_any (w : World) : Calls Try.prog 10 #[] w fun e w' => e = .returned (.bool true) ∧ Below w.heap.size w w' := by
  have L1 := Lib.hid (bs_lit w 5 #[.int .u8 48, .int .u8 5, .int .u8 2, .int .u8 1, .int .u8 5, .int .u8 49, .int .u8 0] [48, 5, 2, 1, 5, 49, 0] 7 rfl rfl (by decide))
  have HP := Lib.hid (parse_any L1.out (by omega))
  rw [tree_ex1] at HP
  unfold ParsePost erV at HP
  simp only at HP
  have HENC := Lib.hid (fun (w : World) (R : Nat → Prop) (cs : List Value) (h : NdCs w R cs exT) => encode_tree_good (by rw [tree_ex9]; omega) tree_ex6 h)
  rw [tree_ex5] at HENC
  have HDEP := Lib.hid (fun (w : World) (R : Nat → Prop) (cs : List Value) (h : NdCs w R cs exT) => depth_any 4 exT w R cs (by rw [tree_ex9]; omega) (by omega) h)
  rw [tree_ex7] at HDEP
  have HCNT := Lib.hid (fun (w : World) (R : Nat → Prop) (cs : List Value) (h : NdCs w R cs exT) => count_any 4 exT w R cs (by rw [tree_ex9]; omega) (by omega) h)
  rw [tree_ex8] at HCNT
  have HVAL := Lib.hid (fun (w : World) (R : Nat → Prop) (cs : List Value) (h : NdCs w R cs exT) => valid_any (w := w) (R := R) (cs := cs) h)
  rw [tree_ex6] at HVAL
  go_enter Try.func10, Try.ntmps10
  go_wp2_with fail
  refine HP.out.mono ?_
  rintro e w1 ⟨cs, rfl, hnd, q⟩
  obtain ⟨a', m', d', ka', kn', kc', rfl, _, hk, hmz, _, _, _, _⟩ := hnd.parts
  obtain rfl : 0 = m' := hmz
  have hkl := hk.1
  simp only [List.length_cons, List.length_nil] at hkl
  obtain rfl : kn' = 2 := hkl.symm
  have B1 := Lib.hid (L1.out.below q)
  have Q1 := Lib.hid (bthen (bal (Below.refl _ w) (.cells #[.int .u8 48, .int .u8 5, .int .u8 2, .int .u8 1, .int .u8 5, .int .u8 49, .int .u8 0] 5)) q)
  have W1 := Lib.hid (bal (bal (Below.refl _ w1) (.cells #[.int .i64 0, .int .i64 16, .bool true, .slice a' 0 d', .slice ka' 2 kc'] 26)) (.cells #[.int .i64 0, .int .i64 0] 29))
  have N1 := Lib.hid ((Blk.new w1 26 #[.int .i64 0, .int .i64 16, .bool true, .slice a' 0 d', .slice ka' 2 kc']).alloc (.cells #[.int .i64 0, .int .i64 0] 29))
  have E1 : Hid (Blk ((w1.alloc (.cells #[.int .i64 0, .int .i64 16, .bool true, .slice a' 0 d', .slice ka' 2 kc'] 26)).alloc (.cells #[.int .i64 0, .int .i64 0] 29)) (w1.heap.size + 1) 29 #[.int .i64 0, .int .i64 0]) := by
    have := Blk.new (w1.alloc (.cells #[.int .i64 0, .int .i64 16, .bool true, .slice a' 0 d', .slice ka' 2 kc'] 26)) 29 #[.int .i64 0, .int .i64 0]
    show Blk _ _ _ _
    simpa using this
  have ND1 := Lib.hid (hnd.below W1.out)
  have BB1 := Lib.hid (B1.out.below W1.out)
  have QQ1 := Lib.hid (bthen Q1.out W1.out)
  clear q hnd hk HP L1 B1 Q1
  obtain ⟨WA, hWA⟩ : ∃ WA, Hid ((w1.alloc (.cells #[.int .i64 0, .int .i64 16, .bool true, .slice a' 0 d', .slice ka' 2 kc'] 26)).alloc (.cells #[.int .i64 0, .int .i64 0] 29) = WA) := ⟨_, rfl⟩
  rw [hWA.out] at N1 E1 ND1 BB1 QQ1 W1
  have hWs : WA.heap.size = w1.heap.size + 1 + 1 := by rw [← hWA.out]; simp
  have I1 := Lib.hid (iz_lit WA 3 1 (by omega))
  have HF := Lib.hid (find_any (BB1.out.alloc (.cells #[.int .i64 1] 3)) (by omega) I1.out)
  rw [tree_ex1, hWs] at HF
  unfold FindPost at HF
  simp only [tree_ex3, tree_ex4, if_pos] at HF
  rw [← hWA.out] at HF
  go_wp2_with fail
  refine HF.out.mono ?_
  rintro e w2 ⟨rfl, q0⟩
  have q : Below WA.heap.size WA w2 := by
    have h : Below _ _ w2 := q0
    rw [hWA.out] at h
    exact (bal (Below.refl _ WA) _).trans (h.mono (by simp))
  have hn5 : ((5 : Nat) : Int) = 5 := rfl
  have hn7 : ((5 + 2 : Nat) : Int) = 7 := rfl
  have U := Lib.hid (bal (bal (bal (Below.refl _ w2) (.cells #[.int .i64 5, .int .i64 7] 47)) (.cells #[.int .i64 0, .int .i64 0] 29)) (.cells #[.int .u8 48, .int .u8 6, .int .u8 2, .int .u8 1, .int .u8 5, .int .u8 49, .int .u8 1, .int .u8 0] 5))
  have N2 := Lib.hid ((N1.out.below q (N1.out.lt)).below U.out (by have := N1.out.lt; have := q.size; omega))
  have E2 := Lib.hid ((E1.out.below q (E1.out.lt)).below U.out (by have := E1.out.lt; have := q.size; omega))
  have BB2 := Lib.hid ((BB1.out.below q).below U.out)
  have ND2 := Lib.hid ((ND1.out.below q).below U.out)
  have QQ2 := Lib.hid (bthen (bthen QQ1.out q) U.out)
  have R2 := Lib.hid (((Blk.new w2 47 #[.int .i64 5, .int .i64 7]).alloc (.cells #[.int .i64 0, .int .i64 0] 29)).alloc (.cells #[.int .u8 48, .int .u8 6, .int .u8 2, .int .u8 1, .int .u8 5, .int .u8 49, .int .u8 1, .int .u8 0] 5))
  have F2 : Hid (Blk (((w2.alloc (.cells #[.int .i64 5, .int .i64 7] 47)).alloc (.cells #[.int .i64 0, .int .i64 0] 29)).alloc (.cells #[.int .u8 48, .int .u8 6, .int .u8 2, .int .u8 1, .int .u8 5, .int .u8 49, .int .u8 1, .int .u8 0] 5)) (w2.heap.size + 1) 29 #[.int .i64 0, .int .i64 0]) := by
    have := (Blk.new (w2.alloc (.cells #[.int .i64 5, .int .i64 7] 47)) 29 #[.int .i64 0, .int .i64 0]).alloc (.cells #[.int .u8 48, .int .u8 6, .int .u8 2, .int .u8 1, .int .u8 5, .int .u8 49, .int .u8 1, .int .u8 0] 5)
    show Blk _ _ _ _
    simpa using this
  have L2 : Hid (Bs (((w2.alloc (.cells #[.int .i64 5, .int .i64 7] 47)).alloc (.cells #[.int .i64 0, .int .i64 0] 29)).alloc (.cells #[.int .u8 48, .int .u8 6, .int .u8 2, .int .u8 1, .int .u8 5, .int .u8 49, .int .u8 1, .int .u8 0] 5)) (some ⟨w2.heap.size + 1 + 1, 0, none⟩) 8 8 [48, 6, 2, 1, 5, 49, 1, 0]) := by
    have := bs_lit ((w2.alloc (.cells #[.int .i64 5, .int .i64 7] 47)).alloc (.cells #[.int .i64 0, .int .i64 0] 29)) 5 #[.int .u8 48, .int .u8 6, .int .u8 2, .int .u8 1, .int .u8 5, .int .u8 49, .int .u8 1, .int .u8 0] [48, 6, 2, 1, 5, 49, 1, 0] 8 rfl rfl (by decide)
    show Bs _ _ _ _ _
    simpa using this
  have HP2 := Lib.hid (parse_any L2.out (by omega))
  rw [tree_ex2] at HP2
  unfold ParsePost erV zeroN at HP2
  simp only at HP2
  clear q q0 N1 E1 ND1 BB1 QQ1 W1 hWA HF I1 hWs
  go_wp2_with fail
  refine HP2.out.mono ?_
  rintro e w3 ⟨rfl, q⟩
  have V := Lib.hid (bal (bal (Below.refl _ w3) (.cells #[.int .i64 0, .int .i64 0, .bool false, .slice none 0 0, .slice none 0 0] 26)) (.cells #[.int .i64 1, .int .i64 8] 29))
  have N3 := Lib.hid ((N2.out.below q N2.out.lt).below V.out (by have := N2.out.lt; have := q.size; omega))
  have E3 := Lib.hid ((E2.out.below q E2.out.lt).below V.out (by have := E2.out.lt; have := q.size; omega))
  have R3 := Lib.hid ((R2.out.below q R2.out.lt).below V.out (by have := R2.out.lt; have := q.size; omega))
  have F3 := Lib.hid ((F2.out.below q F2.out.lt).below V.out (by have := F2.out.lt; have := q.size; omega))
  have BB3 := Lib.hid ((BB2.out.below q).below V.out)
  have ND3 := Lib.hid ((ND2.out.below q).below V.out)
  have QQ3 := Lib.hid (bthen (bthen QQ2.out q) V.out)
  have G3 : Hid (Blk ((w3.alloc (.cells #[.int .i64 0, .int .i64 0, .bool false, .slice none 0 0, .slice none 0 0] 26)).alloc (.cells #[.int .i64 1, .int .i64 8] 29)) (w3.heap.size + 1) 29 #[.int .i64 1, .int .i64 8]) := by
    have := Blk.new (w3.alloc (.cells #[.int .i64 0, .int .i64 0, .bool false, .slice none 0 0, .slice none 0 0] 26)) 29 #[.int .i64 1, .int .i64 8]
    show Blk _ _ _ _
    simpa using this
  have hn3 := N2.out.lt
  have hq3 := q.size
  have hE := Lib.hid (HENC.out _ _ _ ND3.out)
  obtain ⟨n0, n1, n2, n3, n4, nl⟩ := five (N2.out.below q N2.out.lt)
  clear q N2 E2 R2 F2 BB2 ND2 QQ2 U L2 HP2 HENC
  go_wp2_with fail
  refine hE.out.mono ?_
  rintro e w4 ⟨a4, c4, rfl, ho, q⟩
  have X4 := Lib.hid ho.bs
  have N4 := Lib.hid (N3.out.below q N3.out.lt)
  have E4 := Lib.hid (E3.out.below q E3.out.lt)
  have R4 := Lib.hid (R3.out.below q R3.out.lt)
  have F4 := Lib.hid (F3.out.below q F3.out.lt)
  have G4 := Lib.hid (G3.out.below q G3.out.lt)
  have BB4 := Lib.hid (BB3.out.below q)
  have ND4 := Lib.hid (ND3.out.below q)
  have QQ4 := Lib.hid (bthen QQ3.out q)
  clear ho q hE N3 E3 R3 F3 G3 BB3 ND3 QQ3 V n0 n1 n2 n3 n4 nl
  obtain ⟨n0, n1, n2, n3, n4, nl⟩ := five N4.out
  have e0 := E4.out.cell 0
  have e1 := E4.out.cell 1
  have r0 := R4.out.cell 0
  have r1 := R4.out.cell 1
  have t0 := F4.out.cell 0
  have t1 := F4.out.cell 1
  have g0 := G4.out.cell 0
  have g1 := G4.out.cell 1
  have el := E4.out.lt
  have rl := R4.out.lt
  have tl := F4.out.lt
  have gl := G4.out.lt
  simp only [List.getElem?_toArray, List.getElem?_cons_zero, List.getElem?_cons_succ] at e0 e1 r0 r1 t0 t1 g0 g1
  go_wp2_with fail
  refine (HDEP.out _ _ _ ND4.out).mono ?_
  rintro e w5 ⟨rfl, q⟩
  have N5 := Lib.hid (N4.out.below q N4.out.lt)
  have E5 := Lib.hid (E4.out.below q E4.out.lt)
  have R5 := Lib.hid (R4.out.below q R4.out.lt)
  have F5 := Lib.hid (F4.out.below q F4.out.lt)
  have G5 := Lib.hid (G4.out.below q G4.out.lt)
  have BB5 := Lib.hid (BB4.out.below q)
  have X5 := Lib.hid (X4.out.below q)
  have ND5 := Lib.hid (ND4.out.below q)
  have QQ5 := Lib.hid (bthen QQ4.out q)
  clear q N4 E4 R4 F4 G4 BB4 X4 ND4 QQ4 HDEP n0 n1 n2 n3 n4 nl e0 e1 r0 r1 t0 t1 g0 g1 el rl tl gl
  obtain ⟨n0, n1, n2, n3, n4, nl⟩ := five N5.out
  go_wp2_with fail
  refine (HCNT.out _ _ _ ND5.out).mono ?_
  rintro e w6 ⟨rfl, q⟩
  have N6 := Lib.hid (N5.out.below q N5.out.lt)
  have R6 := Lib.hid (R5.out.below q R5.out.lt)
  have F6 := Lib.hid (F5.out.below q F5.out.lt)
  have G6 := Lib.hid (G5.out.below q G5.out.lt)
  have BB6 := Lib.hid (BB5.out.below q)
  have X6 := Lib.hid (X5.out.below q)
  have ND6 := Lib.hid (ND5.out.below q)
  have QQ6 := Lib.hid (bthen QQ5.out q)
  have HBY := Lib.hid (bytes_any X6.out BB6.out)
  rw [eqB_self] at HBY
  clear q N5 E5 R5 F5 G5 BB5 X5 ND5 QQ5 HCNT n0 n1 n2 n3 n4 nl
  obtain ⟨n0, n1, n2, n3, n4, nl⟩ := five N6.out
  have r0 := R6.out.cell 0
  have r1 := R6.out.cell 1
  have t0 := F6.out.cell 0
  have t1 := F6.out.cell 1
  have g0 := G6.out.cell 0
  have g1 := G6.out.cell 1
  have rl := R6.out.lt
  have tl := F6.out.lt
  have gl := G6.out.lt
  simp only [List.getElem?_toArray, List.getElem?_cons_zero, List.getElem?_cons_succ] at r0 r1 t0 t1 g0 g1
  go_wp2_with fail
  refine HBY.out.mono ?_
  rintro e w7 ⟨rfl, rfl⟩
  go_wp2_with fail
  refine (HVAL.out _ _ _ ND6.out).mono ?_
  rintro e w7 ⟨rfl, q⟩
  have QQ7 := Lib.hid (bthen QQ6.out q)
  go_wp2_with fail
  go_ret
  exact ⟨rfl, QQ7.out⟩
end Go.Proofs.Ytgccjdhkpgmnoaa
