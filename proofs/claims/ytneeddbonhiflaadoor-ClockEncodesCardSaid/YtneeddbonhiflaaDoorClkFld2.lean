/-
  Contract of the program's fields, where the octets are as many as asked (2 digits of a year).
-/
import Derived.Test.YtneeddbonhiflaaDoorClkFld
namespace Go.Proofs.YtneeddbonhiflaaDoor
open Go.RowKit

set_option maxRecDepth 100000 in
set_option maxHeartbeats 16000000 in
theorem pfld_yes2 {w : World} {a : Option Addr} {n c : Nat} {l : List UInt8} (hx : Bs w a n c l) (hne : n = 13) (hz : l[12]? = some 90) :
    Calls Tryd.prog 31 #[.slice a n c, .int .i64 2] w fun e w' => e = .returned (.tuple #[tmV ⟨numP (l.take 2), numP ((l.drop 2).take 2), numP (((l.drop 2).drop 2).take 2), numP ((((l.drop 2).drop 2).drop 2).take 2), numP (((((l.drop 2).drop 2).drop 2).drop 2).take 2), numP ((((((l.drop 2).drop 2).drop 2).drop 2).drop 2).take 2)⟩, .bool ((l.take 12).all isDg)]) ∧ Below w.heap.size w w' := by
  rw [good_all 2 l]
  obtain ⟨L1, hL1⟩ : ∃ L1, l.drop 2 = L1 := ⟨_, rfl⟩
  rw [hL1]
  have HL1 := Lib.hid hL1
  clear hL1
  obtain ⟨L2, hL2⟩ : ∃ L2, L1.drop 2 = L2 := ⟨_, rfl⟩
  rw [hL2]
  have HL2 := Lib.hid hL2
  clear hL2
  obtain ⟨L3, hL3⟩ : ∃ L3, L2.drop 2 = L3 := ⟨_, rfl⟩
  rw [hL3]
  have HL3 := Lib.hid hL3
  clear hL3
  obtain ⟨L4, hL4⟩ : ∃ L4, L3.drop 2 = L4 := ⟨_, rfl⟩
  rw [hL4]
  have HL4 := Lib.hid hL4
  clear hL4
  obtain ⟨L5, hL5⟩ : ∃ L5, L4.drop 2 = L5 := ⟨_, rfl⟩
  rw [hL5]
  have HL5 := Lib.hid hL5
  clear hL5
  obtain ⟨w2, hw2⟩ : ∃ w2, (w.alloc (.cells #[.slice a n c] 25)).alloc (.cells #[.int .i64 0, .int .i64 0, .int .i64 0, .int .i64 0, .int .i64 0, .int .i64 0] 23) = w2 := ⟨_, rfl⟩
  obtain ⟨A, hA⟩ : ∃ A, w.heap.size = A := ⟨_, rfl⟩
  have C2 : Hid (Blk w2 A 25 #[.slice a n c]) := by
    rw [← hw2, ← hA]
    exact (Blk.new w 25 #[.slice a n c]).alloc (.cells #[.int .i64 0, .int .i64 0, .int .i64 0, .int .i64 0, .int .i64 0, .int .i64 0] 23)
  have R2 : Hid (Blk w2 (A + 1) 23 #[.int .i64 0, .int .i64 0, .int .i64 0, .int .i64 0, .int .i64 0, .int .i64 0]) := by
    rw [← hw2, ← hA]
    have := Blk.new (w.alloc (.cells #[.slice a n c] 25)) 23 #[.int .i64 0, .int .i64 0, .int .i64 0, .int .i64 0, .int .i64 0, .int .i64 0]
    rw [Hid]
    simpa using this
  have Q2 : Hid (Below A w w2) := by
    rw [← hw2, ← hA]
    exact bal (bal (Below.refl _ _) _) _
  have X2 : Hid (Bs w2 a n c l) := by
    rw [← hw2]
    exact (hx.alloc _).alloc _
  have S2 : Hid (w2.heap.size = A + 1 + 1) := by
    rw [← hw2, ← hA, Hid]
    simp
  obtain ⟨H, hH⟩ : ∃ H, A + 1 = H := ⟨_, rfl⟩
  rw [hH] at R2 S2
  have HLE : Hid (A < H) := by rw [Hid]; omega
  obtain ⟨r0, r1, r2, r3, r4, r5⟩ := R2.out.cells6
  have c0 : w2.cell? ⟨A, 0, none⟩ = some (.slice a n c) := by simpa using C2.out.cell 0
  have rl := R2.out.lt
  have rf := R2.out.frozen
  have hn := hx.2.1
  have hlen := hx.len
  have hcm : c ≤ 9223372036854775807 := by have := hx.2.2.1; unfold maxLen at this; omega
  unfold tmV
  rw [hA]
  have h0A : 0 < n := by omega
  obtain ⟨b, off, hi, rfl, hbl, hc⟩ := hx.at_ (i := 12) (by omega)
  have hbl : b < A := by rw [← hA]; exact hbl
  subst hne
  have hxx : l[12] = 90 := by
    rw [List.getElem?_eq_getElem hi] at hz
    injection hz
  have hcc : w2.cell? ⟨b, off + 12, none⟩ = some (.int .u8 90) := by
    have := (Q2.out.cell (p := ⟨b, off + 12, none⟩) hbl).trans hc
    rw [this, hxx]
    rfl
  clear hz hxx hx hc
  obtain ⟨G, hG⟩ : ∃ G, H + 1 = G := ⟨_, rfl⟩
  obtain ⟨T, hT⟩ : ∃ T, G + 1 = T := ⟨_, rfl⟩
  have hS : w2.heap.size = G := by rw [← hG]; exact S2.out
  obtain ⟨w3, hw3⟩ : ∃ w3, (w2.alloc (.cells #[.bool true] 4)).alloc (.cells #[.int .i64 0, .int .i64 0, .int .i64 0, .int .i64 0, .int .i64 0, .int .i64 0] 23) = w3 := ⟨_, rfl⟩
  have C3 : Hid (Blk w3 A 25 #[.slice (some ⟨b, off, none⟩) 13 c]) := by
    rw [← hw3]
    exact (C2.out.alloc _).alloc _
  have R3 : Hid (Blk w3 H 23 #[.int .i64 0, .int .i64 0, .int .i64 0, .int .i64 0, .int .i64 0, .int .i64 0]) := by
    rw [← hw3]
    exact (R2.out.alloc _).alloc _
  have A3 : Hid (Blk w3 G 4 #[.bool true]) := by
    rw [← hw3, ← hS]
    exact (Blk.new w2 4 #[.bool true]).alloc _
  have T3 : Hid (Blk w3 T 23 #[.int .i64 0, .int .i64 0, .int .i64 0, .int .i64 0, .int .i64 0, .int .i64 0]) := by
    rw [← hw3, ← hT, ← hS]
    have := Blk.new (w2.alloc (.cells #[.bool true] 4)) 23 #[.int .i64 0, .int .i64 0, .int .i64 0, .int .i64 0, .int .i64 0, .int .i64 0]
    rw [Hid]
    simpa using this
  have Q3 : Hid (Below A w w3) := by
    rw [← hw3]
    exact (Q2.out.alloc (by omega) _).alloc (by simp; omega) _
  have X3 : Hid (Bs w3 (some ⟨b, off, none⟩) 13 c l) := by
    rw [← hw3]
    exact (X2.out.alloc _).alloc _
  have hAG : A ≤ G := by omega
  have hAT : A ≤ T := by omega
  have nAG : A ≠ G := by omega
  have nHA : H ≠ A := by omega
  have nHG : H ≠ G := by omega
  have nHT : H ≠ T := by omega
  have nTA : T ≠ A := by omega
  have nTG : T ≠ G := by omega
  have nAT : A ≠ T := by omega
  have nGT : G ≠ T := by omega
  go_enter Tryd.func31, Tryd.ntmps31
  go_wp2_with fail
  clear hw3 hw2 hS S2 r0 r1 r2 r3 r4 r5 rl rf c0 hcc C2 R2 Q2 X2 hG hT hH
  with_reducible refine (next_at (k := 2) (kk := 2) rfl X3.out C3.out A3.out (by omega) (by omega) (by omega) hbl (Nat.le_refl A) hAG nAG).mono ?_
  rintro e w4 ⟨rfl, x4, c4, a4, o4⟩
  rw [HL1.out] at x4
  have X4 := Lib.hid x4
  have C4 := Lib.hid c4
  have A4 := Lib.hid a4
  have R4 := Lib.hid (o4.blk R3.out nHA nHG)
  have T4 := Lib.hid (o4.blk T3.out nTA nTG)
  have Q4 : Hid (Below A w w4) := Q3.out.trans (o4.1 A (Nat.le_refl A) hAG)
  clear x4 c4 a4 o4 X3 C3 A3 R3 T3 Q3
  have C5 := Lib.hid (C4.out.far (p := ⟨T, 0, none⟩) nAT (.int .i64 (numP (l.take 2))))
  have A5 := Lib.hid (A4.out.far (p := ⟨T, 0, none⟩) nGT (.int .i64 (numP (l.take 2))))
  have R5 := Lib.hid (R4.out.far (p := ⟨T, 0, none⟩) nHT (.int .i64 (numP (l.take 2))))
  have T5 : Hid (Blk (w4.setCell ⟨T, 0, none⟩ (.int .i64 (numP (l.take 2)))) T 23 #[.int .i64 (numP (l.take 2)), .int .i64 0, .int .i64 0, .int .i64 0, .int .i64 0, .int .i64 0]) := by
    have := T4.out.set_ 0 (.int .i64 (numP (l.take 2)))
    rw [Hid]
    simpa using this
  have Q5 := Lib.hid (Q4.out.setCell (p := ⟨T, 0, none⟩) hAT (.int .i64 (numP (l.take 2))))
  have X5 := Lib.hid (bs_belowB X4.out (below_lt Q4.out (p := ⟨T, 0, none⟩) hAT (.int .i64 (numP (l.take 2)))) (fun x hx => by injection hx with hx; subst hx; exact hbl))
  have tl := T4.out.lt
  have tf := T4.out.frozen 0
  have tc : w4.cell? ⟨T, 0, none⟩ = some (.int .i64 0) := by simpa using T4.out.cell 0
  go_wp2_with fail
  generalize (w4.setCell ⟨T, 0, none⟩ (.int .i64 (numP (l.take 2)))) = w5 at *
  clear tl tf tc X4 C4 A4 R4 T4 Q4
  with_reducible refine (next_at (k := 2) (kk := 2) rfl X5.out C5.out A5.out (by omega) (by omega) (by omega) hbl (Nat.le_refl A) hAG nAG).mono ?_
  rintro e w6 ⟨rfl, x6, c6, a6, o6⟩
  rw [HL2.out] at x6
  have X6 := Lib.hid x6
  have C6 := Lib.hid c6
  have A6 := Lib.hid a6
  have R6 := Lib.hid (o6.blk R5.out nHA nHG)
  have T6 := Lib.hid (o6.blk T5.out nTA nTG)
  have Q6 : Hid (Below A w w6) := Q5.out.trans (o6.1 A (Nat.le_refl A) hAG)
  clear x6 c6 a6 o6 X5 C5 A5 R5 T5 Q5
  have C7 := Lib.hid (C6.out.far (p := ⟨T, 1, none⟩) nAT (.int .i64 (numP (L1.take 2))))
  have A7 := Lib.hid (A6.out.far (p := ⟨T, 1, none⟩) nGT (.int .i64 (numP (L1.take 2))))
  have R7 := Lib.hid (R6.out.far (p := ⟨T, 1, none⟩) nHT (.int .i64 (numP (L1.take 2))))
  have T7 : Hid (Blk (w6.setCell ⟨T, 1, none⟩ (.int .i64 (numP (L1.take 2)))) T 23 #[.int .i64 (numP (l.take 2)), .int .i64 (numP (L1.take 2)), .int .i64 0, .int .i64 0, .int .i64 0, .int .i64 0]) := by
    have := T6.out.set_ 1 (.int .i64 (numP (L1.take 2)))
    rw [Hid]
    simpa using this
  have Q7 := Lib.hid (Q6.out.setCell (p := ⟨T, 1, none⟩) hAT (.int .i64 (numP (L1.take 2))))
  have X7 := Lib.hid (bs_belowB X6.out (below_lt Q6.out (p := ⟨T, 1, none⟩) hAT (.int .i64 (numP (L1.take 2)))) (fun x hx => by injection hx with hx; subst hx; exact hbl))
  have tl := T6.out.lt
  have tf := T6.out.frozen 1
  have tc : w6.cell? ⟨T, 1, none⟩ = some (.int .i64 0) := by simpa using T6.out.cell 1
  go_wp2_with fail
  generalize (w6.setCell ⟨T, 1, none⟩ (.int .i64 (numP (L1.take 2)))) = w7 at *
  clear tl tf tc X6 C6 A6 R6 T6 Q6
  with_reducible refine (next_at (k := 2) (kk := 2) rfl X7.out C7.out A7.out (by omega) (by omega) (by omega) hbl (Nat.le_refl A) hAG nAG).mono ?_
  rintro e w8 ⟨rfl, x8, c8, a8, o8⟩
  rw [HL3.out] at x8
  have X8 := Lib.hid x8
  have C8 := Lib.hid c8
  have A8 := Lib.hid a8
  have R8 := Lib.hid (o8.blk R7.out nHA nHG)
  have T8 := Lib.hid (o8.blk T7.out nTA nTG)
  have Q8 : Hid (Below A w w8) := Q7.out.trans (o8.1 A (Nat.le_refl A) hAG)
  clear x8 c8 a8 o8 X7 C7 A7 R7 T7 Q7
  have C9 := Lib.hid (C8.out.far (p := ⟨T, 2, none⟩) nAT (.int .i64 (numP (L2.take 2))))
  have A9 := Lib.hid (A8.out.far (p := ⟨T, 2, none⟩) nGT (.int .i64 (numP (L2.take 2))))
  have R9 := Lib.hid (R8.out.far (p := ⟨T, 2, none⟩) nHT (.int .i64 (numP (L2.take 2))))
  have T9 : Hid (Blk (w8.setCell ⟨T, 2, none⟩ (.int .i64 (numP (L2.take 2)))) T 23 #[.int .i64 (numP (l.take 2)), .int .i64 (numP (L1.take 2)), .int .i64 (numP (L2.take 2)), .int .i64 0, .int .i64 0, .int .i64 0]) := by
    have := T8.out.set_ 2 (.int .i64 (numP (L2.take 2)))
    rw [Hid]
    simpa using this
  have Q9 := Lib.hid (Q8.out.setCell (p := ⟨T, 2, none⟩) hAT (.int .i64 (numP (L2.take 2))))
  have X9 := Lib.hid (bs_belowB X8.out (below_lt Q8.out (p := ⟨T, 2, none⟩) hAT (.int .i64 (numP (L2.take 2)))) (fun x hx => by injection hx with hx; subst hx; exact hbl))
  have tl := T8.out.lt
  have tf := T8.out.frozen 2
  have tc : w8.cell? ⟨T, 2, none⟩ = some (.int .i64 0) := by simpa using T8.out.cell 2
  go_wp2_with fail
  generalize (w8.setCell ⟨T, 2, none⟩ (.int .i64 (numP (L2.take 2)))) = w9 at *
  clear tl tf tc X8 C8 A8 R8 T8 Q8
  with_reducible refine (next_at (k := 2) (kk := 2) rfl X9.out C9.out A9.out (by omega) (by omega) (by omega) hbl (Nat.le_refl A) hAG nAG).mono ?_
  rintro e w10 ⟨rfl, x10, c10, a10, o10⟩
  rw [HL4.out] at x10
  have X10 := Lib.hid x10
  have C10 := Lib.hid c10
  have A10 := Lib.hid a10
  have R10 := Lib.hid (o10.blk R9.out nHA nHG)
  have T10 := Lib.hid (o10.blk T9.out nTA nTG)
  have Q10 : Hid (Below A w w10) := Q9.out.trans (o10.1 A (Nat.le_refl A) hAG)
  clear x10 c10 a10 o10 X9 C9 A9 R9 T9 Q9
  have C11 := Lib.hid (C10.out.far (p := ⟨T, 3, none⟩) nAT (.int .i64 (numP (L3.take 2))))
  have A11 := Lib.hid (A10.out.far (p := ⟨T, 3, none⟩) nGT (.int .i64 (numP (L3.take 2))))
  have R11 := Lib.hid (R10.out.far (p := ⟨T, 3, none⟩) nHT (.int .i64 (numP (L3.take 2))))
  have T11 : Hid (Blk (w10.setCell ⟨T, 3, none⟩ (.int .i64 (numP (L3.take 2)))) T 23 #[.int .i64 (numP (l.take 2)), .int .i64 (numP (L1.take 2)), .int .i64 (numP (L2.take 2)), .int .i64 (numP (L3.take 2)), .int .i64 0, .int .i64 0]) := by
    have := T10.out.set_ 3 (.int .i64 (numP (L3.take 2)))
    rw [Hid]
    simpa using this
  have Q11 := Lib.hid (Q10.out.setCell (p := ⟨T, 3, none⟩) hAT (.int .i64 (numP (L3.take 2))))
  have X11 := Lib.hid (bs_belowB X10.out (below_lt Q10.out (p := ⟨T, 3, none⟩) hAT (.int .i64 (numP (L3.take 2)))) (fun x hx => by injection hx with hx; subst hx; exact hbl))
  have tl := T10.out.lt
  have tf := T10.out.frozen 3
  have tc : w10.cell? ⟨T, 3, none⟩ = some (.int .i64 0) := by simpa using T10.out.cell 3
  go_wp2_with fail
  generalize (w10.setCell ⟨T, 3, none⟩ (.int .i64 (numP (L3.take 2)))) = w11 at *
  clear tl tf tc X10 C10 A10 R10 T10 Q10
  with_reducible refine (next_at (k := 2) (kk := 2) rfl X11.out C11.out A11.out (by omega) (by omega) (by omega) hbl (Nat.le_refl A) hAG nAG).mono ?_
  rintro e w12 ⟨rfl, x12, c12, a12, o12⟩
  rw [HL5.out] at x12
  have X12 := Lib.hid x12
  have C12 := Lib.hid c12
  have A12 := Lib.hid a12
  have R12 := Lib.hid (o12.blk R11.out nHA nHG)
  have T12 := Lib.hid (o12.blk T11.out nTA nTG)
  have Q12 : Hid (Below A w w12) := Q11.out.trans (o12.1 A (Nat.le_refl A) hAG)
  clear x12 c12 a12 o12 X11 C11 A11 R11 T11 Q11
  have C13 := Lib.hid (C12.out.far (p := ⟨T, 4, none⟩) nAT (.int .i64 (numP (L4.take 2))))
  have A13 := Lib.hid (A12.out.far (p := ⟨T, 4, none⟩) nGT (.int .i64 (numP (L4.take 2))))
  have R13 := Lib.hid (R12.out.far (p := ⟨T, 4, none⟩) nHT (.int .i64 (numP (L4.take 2))))
  have T13 : Hid (Blk (w12.setCell ⟨T, 4, none⟩ (.int .i64 (numP (L4.take 2)))) T 23 #[.int .i64 (numP (l.take 2)), .int .i64 (numP (L1.take 2)), .int .i64 (numP (L2.take 2)), .int .i64 (numP (L3.take 2)), .int .i64 (numP (L4.take 2)), .int .i64 0]) := by
    have := T12.out.set_ 4 (.int .i64 (numP (L4.take 2)))
    rw [Hid]
    simpa using this
  have Q13 := Lib.hid (Q12.out.setCell (p := ⟨T, 4, none⟩) hAT (.int .i64 (numP (L4.take 2))))
  have X13 := Lib.hid (bs_belowB X12.out (below_lt Q12.out (p := ⟨T, 4, none⟩) hAT (.int .i64 (numP (L4.take 2)))) (fun x hx => by injection hx with hx; subst hx; exact hbl))
  have tl := T12.out.lt
  have tf := T12.out.frozen 4
  have tc : w12.cell? ⟨T, 4, none⟩ = some (.int .i64 0) := by simpa using T12.out.cell 4
  go_wp2_with fail
  generalize (w12.setCell ⟨T, 4, none⟩ (.int .i64 (numP (L4.take 2)))) = w13 at *
  clear tl tf tc X12 C12 A12 R12 T12 Q12
  with_reducible refine (next_at (k := 2) (kk := 2) rfl X13.out C13.out A13.out (by omega) (by omega) (by omega) hbl (Nat.le_refl A) hAG nAG).mono ?_
  rintro e w14 ⟨rfl, x14, c14, a14, o14⟩
  have X14 := Lib.hid x14
  have C14 := Lib.hid c14
  have A14 := Lib.hid a14
  have R14 := Lib.hid (o14.blk R13.out nHA nHG)
  have T14 := Lib.hid (o14.blk T13.out nTA nTG)
  have Q14 : Hid (Below A w w14) := Q13.out.trans (o14.1 A (Nat.le_refl A) hAG)
  clear x14 c14 a14 o14 X13 C13 A13 R13 T13 Q13
  have C15 := Lib.hid (C14.out.far (p := ⟨T, 5, none⟩) nAT (.int .i64 (numP (L5.take 2))))
  have A15 := Lib.hid (A14.out.far (p := ⟨T, 5, none⟩) nGT (.int .i64 (numP (L5.take 2))))
  have R15 := Lib.hid (R14.out.far (p := ⟨T, 5, none⟩) nHT (.int .i64 (numP (L5.take 2))))
  have T15 : Hid (Blk (w14.setCell ⟨T, 5, none⟩ (.int .i64 (numP (L5.take 2)))) T 23 #[.int .i64 (numP (l.take 2)), .int .i64 (numP (L1.take 2)), .int .i64 (numP (L2.take 2)), .int .i64 (numP (L3.take 2)), .int .i64 (numP (L4.take 2)), .int .i64 (numP (L5.take 2))]) := by
    have := T14.out.set_ 5 (.int .i64 (numP (L5.take 2)))
    rw [Hid]
    simpa using this
  have Q15 := Lib.hid (Q14.out.setCell (p := ⟨T, 5, none⟩) hAT (.int .i64 (numP (L5.take 2))))
  have X15 := Lib.hid (bs_belowB X14.out (below_lt Q14.out (p := ⟨T, 5, none⟩) hAT (.int .i64 (numP (L5.take 2)))) (fun x hx => by injection hx with hx; subst hx; exact hbl))
  have tl := T14.out.lt
  have tf := T14.out.frozen 5
  have tc : w14.cell? ⟨T, 5, none⟩ = some (.int .i64 0) := by simpa using T14.out.cell 5
  go_wp2_with fail
  generalize (w14.setCell ⟨T, 5, none⟩ (.int .i64 (numP (L5.take 2)))) = w15 at *
  clear tl tf tc X14 C14 A14 R14 T14 Q14 X15 C15
  obtain ⟨u0, hu0⟩ : ∃ u, numP (l.take 2) = u := ⟨_, rfl⟩
  rw [hu0] at T15 ⊢
  have HU0 := Lib.hid hu0
  clear hu0
  obtain ⟨u1, hu1⟩ : ∃ u, numP (L1.take 2) = u := ⟨_, rfl⟩
  rw [hu1] at T15 ⊢
  have HU1 := Lib.hid hu1
  clear hu1
  obtain ⟨u2, hu2⟩ : ∃ u, numP (L2.take 2) = u := ⟨_, rfl⟩
  rw [hu2] at T15 ⊢
  have HU2 := Lib.hid hu2
  clear hu2
  obtain ⟨u3, hu3⟩ : ∃ u, numP (L3.take 2) = u := ⟨_, rfl⟩
  rw [hu3] at T15 ⊢
  have HU3 := Lib.hid hu3
  clear hu3
  obtain ⟨u4, hu4⟩ : ∃ u, numP (L4.take 2) = u := ⟨_, rfl⟩
  rw [hu4] at T15 ⊢
  have HU4 := Lib.hid hu4
  clear hu4
  obtain ⟨u5, hu5⟩ : ∃ u, numP (L5.take 2) = u := ⟨_, rfl⟩
  rw [hu5] at T15 ⊢
  have HU5 := Lib.hid hu5
  clear hu5
  obtain ⟨D, hD⟩ : ∃ D, ((((((true && (l.take 2).all isDg) && (L1.take 2).all isDg) && (L2.take 2).all isDg) && (L3.take 2).all isDg) && (L4.take 2).all isDg) && (L5.take 2).all isDg) = D := ⟨_, rfl⟩
  rw [hD] at A15
  have HD := Lib.hid hD
  clear hD
  obtain ⟨t0, t1, t2, t3, t4, t5⟩ := T15.out.cells6
  obtain ⟨r0, r1, r2, r3, r4, r5⟩ := R15.out.cells6
  have a0 : w15.cell? ⟨G, 0, none⟩ = some (.bool D) := by simpa using A15.out.cell 0
  have rl := R15.out.lt
  have rf := R15.out.frozen
  have ZF := Lib.hid (R15.out.six (.int .i64 u0) (.int .i64 u1) (.int .i64 u2) (.int .i64 u3) (.int .i64 u4) (.int .i64 u5))
  have QF := Lib.hid (below_six Q15.out (Nat.le_of_lt HLE.out) (.int .i64 u0) (.int .i64 u1) (.int .i64 u2) (.int .i64 u3) (.int .i64 u4) (.int .i64 u5))
  go_region
  all_goals
    go_wp2_with fail
    obtain ⟨y0, y1, y2, y3, y4, y5⟩ := ZF.out.cells6
    have q := QF.out
    generalize ((((((w15.setCell ⟨H, 0, none⟩ (.int .i64 u0)).setCell ⟨H, 1, none⟩ (.int .i64 u1)).setCell ⟨H, 2, none⟩ (.int .i64 u2)).setCell ⟨H, 3, none⟩ (.int .i64 u3)).setCell ⟨H, 4, none⟩ (.int .i64 u4)).setCell ⟨H, 5, none⟩ (.int .i64 u5)) = w9 at *
    exact bodyPost_ret (v := .tuple #[.agg #[.int .i64 u0, .int .i64 u1, .int .i64 u2, .int .i64 u3, .int .i64 u4, .int .i64 u5], .bool D]) (by simp [results, Tryd.results31, go_sem, y0, y1, y2, y3, y4, y5]) rfl ⟨by rw [HU0.out, HU1.out, HU2.out, HU3.out, HU4.out, HU5.out, HD.out], by first | exact q | exact below_drewN q 1⟩
end Go.Proofs.YtneeddbonhiflaaDoor
