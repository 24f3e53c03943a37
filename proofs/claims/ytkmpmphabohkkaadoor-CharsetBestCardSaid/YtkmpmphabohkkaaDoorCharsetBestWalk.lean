/-
  The walk of the law CharsetBest.
-/
import Derived.Test.YtkmpmphabohkkaaDoorChAwake
import Derived.Test.YtkmpmphabohkkaaDoorChInts
namespace Go.Proofs.YtkmpmphabohkkaaDoor.charsetBest
open Go.RowKit

theorem bstC_two (s : List UInt8) : bstC s = 0 ∨ bstC s = 8 := by
  unfold bstC
  split
  · exact .inl rfl
  · exact .inr rfl

set_option maxRecDepth 100000 in
set_option maxHeartbeats 4000000 in
theorem walk {w : World} (hWd : Wd w) {s : List UInt8} :
    Calls Tryd.prog 5 #[.string ⟨s.toArray⟩] w fun e w' => e = .returned (.bool true) ∧ Below w.heap.size w w' := by
  have HW := Lib.hid hWd
  clear hWd
  have HA := Lib.hid (fun v (hq : Below w.heap.size w v) => awakeCh_any v (HW.out.below hq))
  obtain ⟨m, hm⟩ : ∃ m, s.length = m := ⟨_, rfl⟩
  have hs : (⟨s.toArray⟩ : ByteArray).size = m := by rw [← hm]; rfl
  have Q1 := Lib.hid (Below.refl w.heap.size w)
  by_cases hz : m ≤ 1000
  · have hz2 : ¬ (1000 : Int) < m := by omega
    have H1 := Lib.hid (fun v (hq : Below w.heap.size w v) => best_any s (by omega) v (HW.out.below hq))
    have H2 := Lib.hid (fun w => ref_best_any s (by omega) w)
    have H3 := Lib.hid (fun w => fold7_any s (by omega) w)
    have H4 := Lib.hid (fun w => ref_fold_any s (by omega) w)
    have hl := foldT_len s
    have H5 := Lib.hid (fun w => fold7_any (foldT s) (by omega) w)
    rw [fold_fold] at H5
    have H6 := Lib.hid (fun w => kinds7_any w)
    have H7 := Lib.hid (fun w => ref_kinds_any w)
    have H8 := Lib.hid (fun w a b c d (hx : Uk .i64 w a 7 c kindsL) (hy : Uk .i64 w b 7 d kindsL) => ints7_self hx hy)
    unfold tV at H1 H2
    generalize bstS s = S at *
    generalize bstK s = K at *
    have hc := bstC_two s
    generalize bstC s = C at *
    generalize foldT s = X at *
    generalize kindsL = KL at *
    clear hm
    go_enter Tryd.func5, Tryd.ntmps5
    go_wp2_with fail
    with_reducible refine (HA.out _ Q1.out).mono ?_
    rintro e w2 ⟨rfl, q⟩
    have Q2 := Lib.hid (bthen Q1.out q)
    clear q 
    go_wp2_with fail
    with_reducible refine (H1.out _ Q2.out).mono ?_
    rintro e w3 ⟨rfl, q⟩
    have Q3 := Lib.hid (bthen Q2.out q)
    clear q 
    obtain ⟨G, hG⟩ : ∃ G, w3.heap.size = G := ⟨_, rfl⟩
    go_wp2_with fail
    have Q4 := Lib.hid (bal Q3.out (.cells #[.int .i64 K, .string ⟨S.toArray⟩] 23))
    have T4 := Lib.hid (Blk.new w3 23 #[.int .i64 K, .string ⟨S.toArray⟩])
    rw [hG] at T4
    generalize w3.alloc (.cells #[.int .i64 K, .string ⟨S.toArray⟩] 23) = w4 at *
    obtain ⟨t0, t1, tl, tf⟩ := T4.out.cells2
    with_reducible refine (H2.out _).mono ?_
    rintro e w5 ⟨rfl, q⟩
    clear t0 t1 tl tf
    have Q5 := Lib.hid (bthen Q4.out q)
    have T5 := Lib.hid (T4.out.below q T4.out.lt)
    clear q 
    obtain ⟨t0, t1, tl, tf⟩ := T5.out.cells2
    obtain ⟨G2, hG2⟩ : ∃ G2, w5.heap.size = G2 := ⟨_, rfl⟩
    have tG2 := hltB tl hG2
    go_wp2_with fail
    clear t0 t1 tl tf
    have Q6 := Lib.hid (bal Q5.out (.cells #[.int .i64 K, .string ⟨S.toArray⟩] 23))
    have T6 := Lib.hid (T5.out.alloc (.cells #[.int .i64 K, .string ⟨S.toArray⟩] 23))
    have U6 := Lib.hid (Blk.new w5 23 #[.int .i64 K, .string ⟨S.toArray⟩])
    rw [hG2] at U6
    generalize w5.alloc (.cells #[.int .i64 K, .string ⟨S.toArray⟩] 23) = w6 at *
    obtain ⟨t0, t1, tl, tf⟩ := T6.out.cells2
    obtain ⟨u0, u1, ul, uf⟩ := U6.out.cells2
    with_reducible refine (H3.out _).mono ?_
    rintro e w7 ⟨rfl, q⟩
    clear t0 t1 tl tf u0 u1 ul uf
    have Q7 := Lib.hid (bthen Q6.out q)
    have T7 := Lib.hid (T6.out.below q T6.out.lt)
    have U7 := Lib.hid (U6.out.below q U6.out.lt)
    clear q 
    obtain ⟨t0, t1, tl, tf⟩ := T7.out.cells2
    obtain ⟨u0, u1, ul, uf⟩ := U7.out.cells2
    go_wp2_with fail
    with_reducible refine (H4.out _).mono ?_
    rintro e w8 ⟨rfl, q⟩
    clear t0 t1 tl tf u0 u1 ul uf
    have Q8 := Lib.hid (bthen Q7.out q)
    have T8 := Lib.hid (T7.out.below q T7.out.lt)
    have U8 := Lib.hid (U7.out.below q U7.out.lt)
    clear q 
    obtain ⟨t0, t1, tl, tf⟩ := T8.out.cells2
    obtain ⟨u0, u1, ul, uf⟩ := U8.out.cells2
    go_wp2_with fail
    with_reducible refine (H5.out _).mono ?_
    rintro e w9 ⟨rfl, q⟩
    clear t0 t1 tl tf u0 u1 ul uf
    have Q9 := Lib.hid (bthen Q8.out q)
    have T9 := Lib.hid (T8.out.below q T8.out.lt)
    have U9 := Lib.hid (U8.out.below q U8.out.lt)
    clear q 
    obtain ⟨t0, t1, tl, tf⟩ := T9.out.cells2
    obtain ⟨u0, u1, ul, uf⟩ := U9.out.cells2
    go_wp2_with fail
    with_reducible refine (H6.out _).mono ?_
    rintro e w10 ⟨a10, c10, rfl, ho, q⟩
    clear t0 t1 tl tf u0 u1 ul uf
    have Q10 := Lib.hid (bthen Q9.out q)
    have T10 := Lib.hid (T9.out.below q T9.out.lt)
    have U10 := Lib.hid (U9.out.below q U9.out.lt)
    have E10 := Lib.hid (ho)
    clear q ho
    obtain ⟨t0, t1, tl, tf⟩ := T10.out.cells2
    obtain ⟨u0, u1, ul, uf⟩ := U10.out.cells2
    go_wp2_with fail
    with_reducible refine (H7.out _).mono ?_
    rintro e w11 ⟨a11, c11, rfl, ho, q⟩
    clear t0 t1 tl tf u0 u1 ul uf
    have Q11 := Lib.hid (bthen Q10.out q)
    have T11 := Lib.hid (T10.out.below q T10.out.lt)
    have U11 := Lib.hid (U10.out.below q U10.out.lt)
    have E11 := Lib.hid (E10.out.below q)
    have D11 := Lib.hid (ho.uk)
    clear q ho
    obtain ⟨t0, t1, tl, tf⟩ := T11.out.cells2
    obtain ⟨u0, u1, ul, uf⟩ := U11.out.cells2
    go_wp2_with fail
    with_reducible refine (H8.out _ _ _ _ _ E11.out D11.out).mono ?_
    rintro e w12 ⟨rfl, q⟩
    clear t0 t1 tl tf u0 u1 ul uf
    have Q12 := Lib.hid (bthen Q11.out q)
    have T12 := Lib.hid (T11.out.below q T11.out.lt)
    have U12 := Lib.hid (U11.out.below q U11.out.lt)
    have E12 := Lib.hid (E11.out.below q)
    have D12 := Lib.hid (D11.out.below q)
    clear q 
    obtain ⟨t0, t1, tl, tf⟩ := T12.out.cells2
    obtain ⟨u0, u1, ul, uf⟩ := U12.out.cells2
    go_wp2_with fail
    go_ret
    exact ⟨rfl, Q12.out⟩
  · have hz2 : (1000 : Int) < m := by omega
    go_enter Tryd.func5, Tryd.ntmps5
    go_wp2_with fail
    with_reducible refine (HA.out _ Q1.out).mono ?_
    rintro e w2 ⟨rfl, q⟩
    have Q2 := Lib.hid (bthen Q1.out q)
    clear q 
    go_wp2_with fail
    with_reducible refine (HA.out _ Q2.out).mono ?_
    rintro e w3 ⟨rfl, q⟩
    have Q3 := Lib.hid (bthen Q2.out q)
    clear q 
    go_wp2_with fail
    go_ret
    exact ⟨rfl, Q3.out⟩
end Go.Proofs.YtkmpmphabohkkaaDoor.charsetBest
