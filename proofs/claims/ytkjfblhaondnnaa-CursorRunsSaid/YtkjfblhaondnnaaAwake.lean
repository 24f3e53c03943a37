/-
  Contract of awake (the law's fixed examples).
-/
import Derived.Test.YtkjfblhaondnnaaCur3
import Derived.Test.YtkjfblhaondnnaaCur4
import Derived.Test.YtkjfblhaondnnaaMin
import Derived.Test.YtkjfblhaondnnaaLexRef
namespace Go.Proofs.Ytkjfblhaondnnaa
open Go.RowKit

/-- a literal slice of bytes, just made -/
theorem bs_lit (w : World) (e : TypeId) (cs : Array Value) (l : List UInt8) (n : Nat) (h : cs.toList = cellsOf l) (hn : l.length = n) (hm : n ≤ maxLen) : Bs (w.alloc (.cells cs e)) (some ⟨w.heap.size, 0, none⟩) n n l := by
  have hs : cs.size = n * 1 := by
    have : cs.toList.length = (cellsOf l).length := by rw [h]
    rw [cellsOf_len] at this
    simp at this
    omega
  have h1 := World.ownsRow_lit (e := e) (size := 1) (base := 0) w cs n (Nat.zero_le _) hm hs
  rw [h] at h1
  exact bs_of_own h1

set_option maxHeartbeats 2000000 in
theorem awake_any (w : World) : Calls Try.prog 8 #[] w fun e w' => e = .returned (.bool true) ∧ Below w.heap.size w w' := by
  have b1 := Lib.hid (bs_lit w 5 #[.int .u8 1, .int .u8 2, .int .u8 3] [1, 2, 3] 3 rfl rfl (by decide))
  have p1 := Lib.hid ((Below.refl w.heap.size w).alloc (Nat.le_refl _) (Obj.cells #[.int .u8 1, .int .u8 2, .int .u8 3] 5))
  go_enter Try.func8, Try.ntmps8
  go_wp2_with fail
  refine (new_any b1.out (by omega)).mono ?_
  rintro e w1 ⟨g, a1, rfl, hc1, hg1, ha1, hb1⟩
  simp only [World.size_alloc] at hg1
  have hq1 := Lib.hid (p1.out.trans (hb1.mono (by simp)))
  clear b1 p1 hb1 ha1
  go_wp2_with fail
  refine (byte_more hc1 (by decide)).mono ?_
  rintro e w2 ⟨rfl, hc2, hk2⟩
  have hq2 := Lib.hid (below_only hq1.out hk2 hq1.out.size (by omega))
  have hc2' := Lib.hid (hc2.below ((Below.refl _ w2).alloc (Nat.le_refl _) (Obj.cells #[.int .i64 0, .int .i64 0] 33)))
  have he2 := Lib.hid (Blk.new w2 33 #[.int .i64 0, .int .i64 0])
  have hg2 : Hid (g < w2.heap.size) := hc2.lt
  clear hc1 hk2 hc2 hq1
  go_wp2_with fail
  refine (take_more_any (m := 2) hc2'.out (by decide)).mono ?_
  rintro e w3 ⟨a3, c3, rfl, ho3, hc3, hk3⟩
  have hq3 := Lib.hid (below_only (hq2.out.alloc hq2.out.size _) hk3 (by have := hq2.out.size; simp; omega) (by omega))
  have he3 := Lib.hid (he2.out.only hk3 (by have := hg2.out; omega))
  have hc3' := Lib.hid (hc3.below ((Below.refl _ w3).alloc (Nat.le_refl _) (Obj.cells #[.int .i64 0, .int .i64 0] 33)))
  have he3' := Lib.hid (Blk.new w3 33 #[.int .i64 0, .int .i64 0])
  have ho3' := Lib.hid (ho3.below ((Below.refl _ w3).alloc (Nat.le_refl _) (Obj.cells #[.int .i64 0, .int .i64 0] 33)))
  have hs3 : Hid (w2.heap.size < w3.heap.size) := by have := hk3.size; simp at this; show _ < _; omega
  clear hc2' he2 hq2 ho3 hc3 hk3
  go_wp2_with fail
  refine (byte_end hc3'.out (by decide)).mono ?_
  rintro e w4 ⟨rfl, hb4⟩
  have hs4 : Hid (w3.heap.size < w4.heap.size) := by have := hb4.size; simp at this; show _ < _; omega
  have he4 := Lib.hid ((he3.out.alloc _).below hb4 (by have := hs3.out; simp; omega))
  have he4' := Lib.hid (he3'.out.below hb4 (by simp))
  have ho4 := Lib.hid (ho3'.out.below hb4)
  have hq4 := Lib.hid ((hq3.out.alloc hq3.out.size _).trans (hb4.mono (by have := hq3.out.size; simp; omega)))
  have hz4 : w.heap.size ≤ w4.heap.size := hq4.out.size
  have hz4' := Lib.hid hz4
  clear hc3' he3 he3' hq3 ho3' hb4 hz4
  have b5 := Lib.hid (bs_lit (w4.alloc (Obj.cells #[Value.int IntKind.i64 1, Value.int IntKind.i64 3] 33)) 5 #[.int .u8 0, .int .u8 1, .int .u8 2] [0, 1, 2] 3 rfl rfl (by decide))
  go_wp2_with fail
  refine (uint_any (by simpa using b5.out)).mono ?_
  rintro e w5 ⟨rfl, rfl⟩
  rw [show uval [0, 1, 2] = 258 from by decide, show uok [0, 1, 2] = true from by decide]
  have c20 := he4.out.cell 0
  have c21 := he4.out.cell 1
  have c30 := he4'.out.cell 0
  have c31 := he4'.out.cell 1
  have l24 : w2.heap.size < w4.heap.size := he4.out.lt
  have l34 : w3.heap.size < w4.heap.size := he4'.out.lt
  simp only [List.getElem?_toArray, List.getElem?_cons_zero, List.getElem?_cons_succ] at c20 c21 c30 c31
  clear he4 he4' b5 hg1 hg2 hs3 hs4
  go_wp2_with fail
  have b6 := bs_lit ((w4.alloc (Obj.cells #[Value.int IntKind.i64 1, Value.int IntKind.i64 3] 33)).alloc (Obj.cells #[Value.int IntKind.u8 0, Value.int IntKind.u8 1, Value.int IntKind.u8 2] 5)) 5 #[.int .u8 2, .int .u8 3] [2, 3] 2 rfl rfl (by decide)
  simp only [World.size_alloc] at b6
  refine (bytes_any (((ho4.out.bs.alloc _).alloc _).alloc _) b6).mono ?_
  rintro e w5 ⟨rfl, rfl⟩
  rw [show eqB (List.take 2 (List.drop (0 + 1) [1, 2, 3])) [2, 3] = true from by decide]
  clear b6 ho4
  have l34a : w3.heap.size < w4.heap.size + 1 := by omega
  have l34b : w3.heap.size < w4.heap.size + 1 + 1 := by omega
  go_wp2_with fail
  refine (minimal_any (n := 258) (by show _ < _; omega) _).mono ?_
  rintro e w5 ⟨a5, c5, rfl, ho5, hb5⟩
  have hd : digits 258 = [1, 2] := by decide
  rw [hd] at ho5 ⊢
  clear hd
  have ho5' := Lib.hid ho5
  have hb5' := Lib.hid hb5
  clear ho5 hb5
  go_wp2_with fail
  have b7 := bs_lit w5 5 #[.int .u8 1, .int .u8 2] [1, 2] 2 rfl rfl (by decide)
  refine (bytes_any (ho5'.out.bs.alloc _) b7).mono ?_
  rintro e w6 ⟨rfl, rfl⟩
  rw [show eqB [1, 2] [1, 2] = true from by decide]
  clear b7 c20 c21 c30 c31 l24 l34 l34a l34b
  have hq6 := Lib.hid (bthen (bal (bal (bal hq4.out _) _) _) hb5'.out)
  clear hb5' hq4 hz4' ho5'
  go_wp2_with fail
  have b8 := Lib.hid (bs_lit (w5.alloc (Obj.cells #[Value.int IntKind.u8 1, Value.int IntKind.u8 2] 5)) 5 #[.int .u8 1] [1] 1 rfl rfl (by decide))
  have b9 := Lib.hid (bs_lit ((w5.alloc (Obj.cells #[Value.int IntKind.u8 1, Value.int IntKind.u8 2] 5)).alloc (.cells #[.int .u8 1] 5)) 5 #[.int .u8 1, .int .u8 2] [1, 2] 2 rfl rfl (by decide))
  refine (compare_any (by simpa using b8.out.alloc _) (by simpa using b9.out)).mono ?_
  rintro e w7 ⟨rfl, hb7⟩
  rw [show lex [1] [1, 2] = -1 from by decide]
  have hb7' := Lib.hid hb7
  clear b8 b9 hb7
  go_wp2_with fail
  go_ret
  exact ⟨rfl, bthen (bal (bal (bal hq6.out _) _) _) hb7'.out⟩
end Go.Proofs.Ytkjfblhaondnnaa
