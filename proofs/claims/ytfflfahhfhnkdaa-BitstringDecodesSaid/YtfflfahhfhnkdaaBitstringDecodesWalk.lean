/-
  The walk of the law BitstringDecodes.
-/
import Derived.Test.YtfflfahhfhnkdaaBitAwake
import Derived.Test.YtfflfahhfhnkdaaBitSame
import Derived.Test.YtfflfahhfhnkdaaBitDecRef
namespace Go.Proofs.Ytfflfahhfhnkdaa.bitstringDecodes
open Go.RowKit

theorem ins_eb {l : List UInt8} (h : insOk l = true) : ebL (insB l) (insU l) = l ∧ ebC (insB l) (insU l) = 0 := by
  obtain ⟨hd, hv⟩ := ins_valid h
  refine ⟨?_, (eb_yes hv).2⟩
  rw [(eb_yes hv).1, Int.toNat_natCast]
  exact (decBits_some hd).2.2.symm

set_option maxRecDepth 100000 in
set_option maxHeartbeats 4000000 in
theorem walk {w : World} {a : Option Addr} {n c : Nat} {l : List UInt8} (b0 : Bs w a n c l) :
    Calls Try.prog 4 #[.slice a n c] w fun e w' => e = .returned (.bool true) ∧ Below w.heap.size w w' := by
  have HA := Lib.hid (fun w => awakeBit_any w)
  have hn := b0.len
  have hnm : (n : Int) ≤ 9223372036854775807 := by have := b0.2.1; have := b0.2.2.1; unfold maxLen at this; omega
  have Q0 := Lib.hid (Below.refl w.heap.size w)
  have X0 := Lib.hid (b0)
  clear b0
  by_cases hz : n ≤ 2000
  · have hz2 : ¬ (2000 : Int) < n := by omega
    have H1 := Lib.hid (fun w a c (h : Bs w a n c l) => bdec_any h (by omega))
    have H2 := Lib.hid (fun w a c (h : Bs w a n c l) => ref_bdec_any h)
    have H3 := Lib.hid (fun w a b c d r (U : Nat) (hx : Bs w a r.length c r) (hy : Bs w b r.length d r) => bits_self (u := (U : Int)) hx hy)
    have HB := Lib.hid (fun w a b c d (hx : Bs w a n c l) (hy : Bs w b n d l) => bytes_any hx hy)
    rw [eqB_self] at HB
    have hil : (insB l).length ≤ 1000000 := by have : (insB l).length ≤ l.length := by { unfold insB; simp }; omega
    rcases hok : insOk l with _ | _
    · rw [(bitsOf_no hok).2] at H1 H2
      unfold bV at H1 H2 H3
      clear hok hil hn
      generalize (bitsOf l).1 = r at *
      generalize (bitsOf l).2 = U at *
      go_enter Try.func4, Try.ntmps4
      go_wp2_with fail
      with_reducible refine (HA.out _).mono ?_
      rintro e w1 ⟨rfl, q⟩
      have Q1 := Lib.hid (bthen Q0.out q)
      have X1 := Lib.hid (X0.out.below q)
      clear q 
      go_wp2_with fail
      with_reducible refine (H1.out _ _ _ X1.out).mono ?_
      rintro e w2 ⟨a2, c2, rfl, ho, q⟩
      have Q2 := Lib.hid (bthen Q1.out q)
      have X2 := Lib.hid (X1.out.below q)
      have Y2 := Lib.hid (ho.bs)
      clear q ho
      obtain ⟨A, hA⟩ : ∃ A, w2.heap.size = A := ⟨_, rfl⟩
      go_wp2_with fail
      have Q3 := Lib.hid (bal Q2.out (.cells #[.slice a2 r.length c2, .int .i64 (U : Int)] 24))
      have X3 := Lib.hid (X2.out.alloc (.cells #[.slice a2 r.length c2, .int .i64 (U : Int)] 24))
      have Y3 := Lib.hid (Y2.out.alloc (.cells #[.slice a2 r.length c2, .int .i64 (U : Int)] 24))
      have S3 := Lib.hid (Blk.new w2 24 #[.slice a2 r.length c2, .int .i64 (U : Int)])
      rw [hA] at S3
      generalize w2.alloc (.cells #[.slice a2 r.length c2, .int .i64 (U : Int)] 24) = w3 at *
      obtain ⟨z0, z1, zl, zf⟩ := S3.out.cells2
      with_reducible refine (H2.out _ _ _ X3.out).mono ?_
      rintro e w4 ⟨a4, c4, rfl, ho, q⟩
      clear z0 z1 zl zf
      have Q4 := Lib.hid (bthen Q3.out q)
      have X4 := Lib.hid (X3.out.below q)
      have Y4 := Lib.hid (Y3.out.below q)
      have S4 := Lib.hid (S3.out.below q S3.out.lt)
      have V4 := Lib.hid (ho)
      clear q ho
      obtain ⟨z0, z1, zl, zf⟩ := S4.out.cells2
      obtain ⟨B, hB⟩ : ∃ B, w4.heap.size = B := ⟨_, rfl⟩
      have zB := hltB zl hB
      go_wp2_with fail
      clear z0 z1 zl zf
      have Q5 := Lib.hid (bal Q4.out (.cells #[.slice a4 r.length c4, .int .i64 (U : Int)] 24))
      have X5 := Lib.hid (X4.out.alloc (.cells #[.slice a4 r.length c4, .int .i64 (U : Int)] 24))
      have Y5 := Lib.hid (Y4.out.alloc (.cells #[.slice a4 r.length c4, .int .i64 (U : Int)] 24))
      have S5 := Lib.hid (S4.out.alloc (.cells #[.slice a4 r.length c4, .int .i64 (U : Int)] 24))
      have V5 := Lib.hid (V4.out.alloc (.cells #[.slice a4 r.length c4, .int .i64 (U : Int)] 24))
      have T5 := Lib.hid (Blk.new w4 24 #[.slice a4 r.length c4, .int .i64 (U : Int)])
      rw [hB] at T5
      generalize w4.alloc (.cells #[.slice a4 r.length c4, .int .i64 (U : Int)] 24) = w5 at *
      obtain ⟨z0, z1, zl, zf⟩ := S5.out.cells2
      obtain ⟨y0, y1, yl, yf⟩ := T5.out.cells2
      with_reducible refine (H3.out _ _ _ _ _ _ _ Y5.out V5.out).mono ?_
      rintro e w6 ⟨rfl, q⟩
      clear z0 z1 zl zf y0 y1 yl yf
      have Q6 := Lib.hid (bthen Q5.out q)
      have X6 := Lib.hid (X5.out.below q)
      have Y6 := Lib.hid (Y5.out.below q)
      have S6 := Lib.hid (S5.out.below q S5.out.lt)
      have V6 := Lib.hid (V5.out.below q)
      have T6 := Lib.hid (T5.out.below q T5.out.lt)
      clear q 
      obtain ⟨z0, z1, zl, zf⟩ := S6.out.cells2
      obtain ⟨y0, y1, yl, yf⟩ := T6.out.cells2
      go_wp2_with fail
      with_reducible refine (H3.out _ _ _ _ _ _ _ Y6.out V6.out).mono ?_
      rintro e w7 ⟨rfl, q⟩
      clear z0 z1 zl zf y0 y1 yl yf
      have Q7 := Lib.hid (bthen Q6.out q)
      have X7 := Lib.hid (X6.out.below q)
      have Y7 := Lib.hid (Y6.out.below q)
      have S7 := Lib.hid (S6.out.below q S6.out.lt)
      have V7 := Lib.hid (V6.out.below q)
      have T7 := Lib.hid (T6.out.below q T6.out.lt)
      clear q 
      obtain ⟨z0, z1, zl, zf⟩ := S7.out.cells2
      obtain ⟨y0, y1, yl, yf⟩ := T7.out.cells2
      go_wp2_with fail
      go_ret
      exact ⟨rfl, Q7.out⟩
    · have H4 := Lib.hid (fun w a c (h : Bs w a (insB l).length c (insB l)) => benc_any h (insU l) hil)
      rw [(bitsOf_yes hok).1, (bitsOf_yes hok).2] at H1 H2
      rw [(ins_eb hok).1, (ins_eb hok).2, hn] at H4
      unfold bV at H1 H2 H3 H4
      clear hok hil hn
      simp only [] at H1 H2
      generalize insB l = r at *
      generalize insU l = U at *
      go_enter Try.func4, Try.ntmps4
      go_wp2_with fail
      with_reducible refine (HA.out _).mono ?_
      rintro e w1 ⟨rfl, q⟩
      have Q1 := Lib.hid (bthen Q0.out q)
      have X1 := Lib.hid (X0.out.below q)
      clear q 
      go_wp2_with fail
      with_reducible refine (H1.out _ _ _ X1.out).mono ?_
      rintro e w2 ⟨a2, c2, rfl, ho, q⟩
      have Q2 := Lib.hid (bthen Q1.out q)
      have X2 := Lib.hid (X1.out.below q)
      have Y2 := Lib.hid (ho.bs)
      clear q ho
      obtain ⟨A, hA⟩ : ∃ A, w2.heap.size = A := ⟨_, rfl⟩
      go_wp2_with fail
      have Q3 := Lib.hid (bal Q2.out (.cells #[.slice a2 r.length c2, .int .i64 (U : Int)] 24))
      have X3 := Lib.hid (X2.out.alloc (.cells #[.slice a2 r.length c2, .int .i64 (U : Int)] 24))
      have Y3 := Lib.hid (Y2.out.alloc (.cells #[.slice a2 r.length c2, .int .i64 (U : Int)] 24))
      have S3 := Lib.hid (Blk.new w2 24 #[.slice a2 r.length c2, .int .i64 (U : Int)])
      rw [hA] at S3
      generalize w2.alloc (.cells #[.slice a2 r.length c2, .int .i64 (U : Int)] 24) = w3 at *
      obtain ⟨z0, z1, zl, zf⟩ := S3.out.cells2
      with_reducible refine (H2.out _ _ _ X3.out).mono ?_
      rintro e w4 ⟨a4, c4, rfl, ho, q⟩
      clear z0 z1 zl zf
      have Q4 := Lib.hid (bthen Q3.out q)
      have X4 := Lib.hid (X3.out.below q)
      have Y4 := Lib.hid (Y3.out.below q)
      have S4 := Lib.hid (S3.out.below q S3.out.lt)
      have V4 := Lib.hid (ho)
      clear q ho
      obtain ⟨z0, z1, zl, zf⟩ := S4.out.cells2
      obtain ⟨B, hB⟩ : ∃ B, w4.heap.size = B := ⟨_, rfl⟩
      have zB := hltB zl hB
      go_wp2_with fail
      clear z0 z1 zl zf
      have Q5 := Lib.hid (bal Q4.out (.cells #[.slice a4 r.length c4, .int .i64 (U : Int)] 24))
      have X5 := Lib.hid (X4.out.alloc (.cells #[.slice a4 r.length c4, .int .i64 (U : Int)] 24))
      have Y5 := Lib.hid (Y4.out.alloc (.cells #[.slice a4 r.length c4, .int .i64 (U : Int)] 24))
      have S5 := Lib.hid (S4.out.alloc (.cells #[.slice a4 r.length c4, .int .i64 (U : Int)] 24))
      have V5 := Lib.hid (V4.out.alloc (.cells #[.slice a4 r.length c4, .int .i64 (U : Int)] 24))
      have T5 := Lib.hid (Blk.new w4 24 #[.slice a4 r.length c4, .int .i64 (U : Int)])
      rw [hB] at T5
      generalize w4.alloc (.cells #[.slice a4 r.length c4, .int .i64 (U : Int)] 24) = w5 at *
      obtain ⟨z0, z1, zl, zf⟩ := S5.out.cells2
      obtain ⟨y0, y1, yl, yf⟩ := T5.out.cells2
      with_reducible refine (H3.out _ _ _ _ _ _ _ Y5.out V5.out).mono ?_
      rintro e w6 ⟨rfl, q⟩
      clear z0 z1 zl zf y0 y1 yl yf
      have Q6 := Lib.hid (bthen Q5.out q)
      have X6 := Lib.hid (X5.out.below q)
      have Y6 := Lib.hid (Y5.out.below q)
      have S6 := Lib.hid (S5.out.below q S5.out.lt)
      have V6 := Lib.hid (V5.out.below q)
      have T6 := Lib.hid (T5.out.below q T5.out.lt)
      clear q 
      obtain ⟨z0, z1, zl, zf⟩ := S6.out.cells2
      obtain ⟨y0, y1, yl, yf⟩ := T6.out.cells2
      go_wp2_with fail
      with_reducible refine (H4.out _ _ _ Y6.out).mono ?_
      rintro e w7 ⟨a7, c7, rfl, ho, q⟩
      clear z0 z1 zl zf y0 y1 yl yf
      have Q7 := Lib.hid (bthen Q6.out q)
      have X7 := Lib.hid (X6.out.below q)
      have Y7 := Lib.hid (Y6.out.below q)
      have S7 := Lib.hid (S6.out.below q S6.out.lt)
      have V7 := Lib.hid (V6.out.below q)
      have T7 := Lib.hid (T6.out.below q T6.out.lt)
      have E7 := Lib.hid (ho.bs)
      clear q ho
      obtain ⟨z0, z1, zl, zf⟩ := S7.out.cells2
      obtain ⟨y0, y1, yl, yf⟩ := T7.out.cells2
      go_wp2_with fail
      with_reducible refine (HB.out _ _ _ _ _ E7.out X7.out).mono ?_
      rintro e w' ⟨rfl, rfl⟩
      go_wp2_with fail
      go_ret
      exact ⟨rfl, Q7.out⟩
  · have hz2 : (2000 : Int) < n := by omega
    go_enter Try.func4, Try.ntmps4
    go_wp2_with fail
    with_reducible refine (HA.out _).mono ?_
    rintro e w1 ⟨rfl, q⟩
    have Q1 := Lib.hid (bthen Q0.out q)
    have X1 := Lib.hid (X0.out.below q)
    clear q 
    go_wp2_with fail
    with_reducible refine (HA.out _).mono ?_
    rintro e w2 ⟨rfl, q⟩
    have Q2 := Lib.hid (bthen Q1.out q)
    have X2 := Lib.hid (X1.out.below q)
    clear q 
    go_wp2_with fail
    go_ret
    exact ⟨rfl, Q2.out⟩
end Go.Proofs.Ytfflfahhfhnkdaa.bitstringDecodes
