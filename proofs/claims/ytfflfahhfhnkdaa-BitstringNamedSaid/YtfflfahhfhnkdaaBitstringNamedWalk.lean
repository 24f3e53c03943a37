/-
  The walk of the law BitstringNamed.
-/
import Derived.Test.YtfflfahhfhnkdaaBitAwake
import Derived.Test.YtfflfahhfhnkdaaBitSame
import Derived.Test.YtfflfahhfhnkdaaBitDecNR
namespace Go.Proofs.Ytfflfahhfhnkdaa.bitstringNamed
open Go.RowKit

theorem en_code {s m : Int} (h : encNam s m = none) : enC s m ≠ 0 := by
  unfold enC
  rw [h]
  decide
theorem en_all {s m : Int} {c : List UInt8} (h : encNam s m = some c) : ∃ S : Nat, s = S ∧ S < 2 ^ 32 ∧ enL s m = namO S ∧ enC s m = 0 ∧ dnN (namO S) m = S ∧ dnC (namO S) m = 0 := by
  obtain ⟨h1, h2, h3, h4, h5, h6⟩ := encNam_some h
  have hp : 2 ^ m.toNat ≤ 2 ^ 32 := Nat.pow_le_pow_right (by omega) (by omega)
  subst h5
  obtain ⟨h7, h8⟩ := dn_some ⟨h1, h2⟩ h6
  refine ⟨s.toNat, by omega, by omega, ?_, ?_, h7, h8⟩
  · unfold enL
    rw [h]
    rfl
  · unfold enC
    rw [h]
    rfl
theorem nam_bits (S : Nat) : (bitsOf (namO S)).1 = namB S ∧ (bitsOf (namO S)).2 = namU S ∧ dbC (namO S) = 0 := by
  have h := decBits_nam S
  have hok : insOk (namO S) = true := by unfold insOk; rw [h]; rfl
  refine ⟨?_, ?_, (bitsOf_yes hok).2⟩
  · unfold bitsOf; rw [h]; rfl
  · unfold bitsOf; rw [h]; rfl

set_option maxRecDepth 100000 in
set_option maxHeartbeats 4000000 in
theorem walk {w : World} {s m : Int} (ws : (Lit.int .i64 s).wf = true) (_wm : (Lit.int .i64 m).wf = true) :
    Calls Try.prog 6 #[.int .i64 s, .int .i64 m] w fun e w' => e = .returned (.bool true) ∧ Below w.heap.size w w' := by
  have HA := Lib.hid (fun w => awakeBit_any w)
  have hs : s ≤ 9223372036854775807 := (bounds_i64 ws).2
  have H1 := Lib.hid (fun w => encn_any w s m hs)
  have H2 := Lib.hid (fun w => ref_encn_any w s m hs)
  have Q0 := Lib.hid (Below.refl w.heap.size w)
  clear ws
  rcases he : encNam s m with _ | c
  · have hC := en_code he
    generalize enC s m = C at *
    generalize enL s m = O at *
    have hC1 : ((C : Int) != 0) = true := by simp; omega
    clear hs hC he
    have HB := Lib.hid (fun w a b c d (hx : Bs w a O.length c O) (hy : Bs w b O.length d O) => bytes_any hx hy)
    rw [eqB_self] at HB
    go_enter Try.func6, Try.ntmps6
    go_wp2_with fail
    with_reducible refine (HA.out _).mono ?_
    rintro e w1 ⟨rfl, q⟩
    have Q1 := Lib.hid (bthen Q0.out q)
    clear q 
    go_wp2_with fail
    with_reducible refine (H1.out _).mono ?_
    rintro e w2 ⟨a2, c2, rfl, ho, q⟩
    have Q2 := Lib.hid (bthen Q1.out q)
    have C2 := Lib.hid (ho.bs)
    clear q ho
    go_wp2_with fail
    with_reducible refine (H2.out _).mono ?_
    rintro e w3 ⟨a3, c3, rfl, ho, q⟩
    have Q3 := Lib.hid (bthen Q2.out q)
    have C3 := Lib.hid (C2.out.below q)
    have D3 := Lib.hid (ho.bs)
    clear q ho
    go_wp2_with fail
    with_reducible refine (HB.out _ _ _ _ _ C3.out D3.out).mono ?_
    rintro e w' ⟨rfl, rfl⟩
    go_wp2_with fail
    with_reducible refine (HB.out _ _ _ _ _ C3.out D3.out).mono ?_
    rintro e w' ⟨rfl, rfl⟩
    go_wp2_with fail
    go_ret
    exact ⟨rfl, Q3.out⟩
  · obtain ⟨S, rfl, hS, e1, e2, e3, e4⟩ := en_all he
    rw [e1, e2] at H1 H2
    have hN := namN_le hS
    have hBL := namB_len S
    have hOL : (namO S).length = (namB S).length + 1 := rfl
    have HB := Lib.hid (fun w a b c d (hx : Bs w a (namO S).length c (namO S)) (hy : Bs w b (namO S).length d (namO S)) => bytes_any hx hy)
    rw [eqB_self] at HB
    have H3 := Lib.hid (fun w a c (h : Bs w a (namO S).length c (namO S)) => decn_any h (by omega) m)
    rw [e3, e4] at H3
    have H4 := Lib.hid (fun w a c (h : Bs w a (namO S).length c (namO S)) => bdec_any h (by omega))
    rw [(nam_bits S).1, (nam_bits S).2.1, (nam_bits S).2.2] at H4
    have H5 := Lib.hid (fun w => members_any w (S : Int) hs)
    have H6 := Lib.hid (fun w => ref_members_any w (S : Int) hs)
    rw [← memI_nam (show S < 2 ^ 63 by omega)] at H5 H6
    have H7 := Lib.hid (fun w a b c d (hx : Uk .i64 w a (memTo (bN S) (namN S)).length c (memTo (bN S) (namN S))) (hy : Uk .i64 w b (memTo (bN S) (namN S)).length d (memTo (bN S) (namN S))) => ints_self hx hy)
    have H8 := Lib.hid (fun w a c (h : Bs w a (namB S).length c (namB S)) => blen_any h (namU S) (by omega))
    rw [lenB_nam] at H8
    have H9 := Lib.hid (fun w a c (h : Bs w a (namB S).length c (namB S)) (k : Nat) => bat_any h (namU S) (by omega) (k : Int))
    have HAT := Lib.hid (fun k : Nat => at_nam S k)
    simp only [HAT.out] at H9
    unfold bV at H4 H8 H9
    have hml := memTo_len (bN S) (namN S)
    clear hs hS he e1 e2 e3 e4 hBL hOL HAT
    generalize namO S = O at *
    generalize namB S = r at *
    generalize namU S = U at *
    generalize namN S = N at *
    generalize bN S = f at *
    have hN2 : (N : Int) ≤ 32 := by omega
    obtain ⟨P, hP⟩ : ∃ P, (memTo f N).length = P := ⟨_, rfl⟩
    have HP := Lib.hid hP
    rw [hP] at H5 H6 H7 hml
    have hP2 : (P : Int) ≤ 32 := by omega
    clear hP
    go_enter Try.func6, Try.ntmps6
    go_wp2_with fail
    with_reducible refine (HA.out _).mono ?_
    rintro e w1 ⟨rfl, q⟩
    have Q1 := Lib.hid (bthen Q0.out q)
    clear q 
    go_wp2_with fail
    with_reducible refine (H1.out _).mono ?_
    rintro e w2 ⟨a2, c2, rfl, ho, q⟩
    have Q2 := Lib.hid (bthen Q1.out q)
    have C2 := Lib.hid (ho.bs)
    clear q ho
    go_wp2_with fail
    with_reducible refine (H2.out _).mono ?_
    rintro e w3 ⟨a3, c3, rfl, ho, q⟩
    have Q3 := Lib.hid (bthen Q2.out q)
    have C3 := Lib.hid (C2.out.below q)
    have D3 := Lib.hid (ho.bs)
    clear q ho
    go_wp2_with fail
    with_reducible refine (HB.out _ _ _ _ _ C3.out D3.out).mono ?_
    rintro e w' ⟨rfl, rfl⟩
    go_wp2_with fail
    with_reducible refine (H3.out _ _ _ C3.out).mono ?_
    rintro e w4 ⟨rfl, q⟩
    have Q4 := Lib.hid (bthen Q3.out q)
    have C4 := Lib.hid (C3.out.below q)
    clear q 
    go_wp2_with fail
    with_reducible refine (H4.out _ _ _ C4.out).mono ?_
    rintro e w5 ⟨a5, c5, rfl, ho, q⟩
    have Q5 := Lib.hid (bthen Q4.out q)
    have Y5 := Lib.hid (ho.bs)
    clear q ho
    obtain ⟨A, hA⟩ : ∃ A, w5.heap.size = A := ⟨_, rfl⟩
    go_wp2_with fail
    have Q6 := Lib.hid (bal Q5.out (.cells #[.slice a5 r.length c5, .int .i64 (U : Int)] 24))
    have Y6 := Lib.hid (Y5.out.alloc (.cells #[.slice a5 r.length c5, .int .i64 (U : Int)] 24))
    have Z6 := Lib.hid (Blk.new w5 24 #[.slice a5 r.length c5, .int .i64 (U : Int)])
    rw [hA] at Z6
    generalize w5.alloc (.cells #[.slice a5 r.length c5, .int .i64 (U : Int)] 24) = w6 at *
    obtain ⟨z0, z1, zl, zf⟩ := Z6.out.cells2
    with_reducible refine (H5.out _).mono ?_
    rintro e w7 ⟨a7, c7, rfl, ho, q⟩
    clear z0 z1 zl zf
    have Q7 := Lib.hid (bthen Q6.out q)
    have Y7 := Lib.hid (Y6.out.below q)
    have Z7 := Lib.hid (Z6.out.below q Z6.out.lt)
    have M7 := Lib.hid (ho.uk)
    clear q ho
    obtain ⟨z0, z1, zl, zf⟩ := Z7.out.cells2
    go_wp2_with fail
    with_reducible refine (H6.out _).mono ?_
    rintro e w8 ⟨a8, c8, rfl, ho, q⟩
    clear z0 z1 zl zf
    have Q8 := Lib.hid (bthen Q7.out q)
    have Y8 := Lib.hid (Y7.out.below q)
    have Z8 := Lib.hid (Z7.out.below q Z7.out.lt)
    have M8 := Lib.hid (M7.out.below q)
    have R8 := Lib.hid (ho.uk)
    clear q ho
    obtain ⟨z0, z1, zl, zf⟩ := Z8.out.cells2
    go_wp2_with fail
    with_reducible refine (H7.out _ _ _ _ _ M8.out R8.out).mono ?_
    rintro e w9 ⟨rfl, q⟩
    clear z0 z1 zl zf
    have Q9 := Lib.hid (bthen Q8.out q)
    have Y9 := Lib.hid (Y8.out.below q)
    have Z9 := Lib.hid (Z8.out.below q Z8.out.lt)
    have M9 := Lib.hid (M8.out.below q)
    clear q 
    obtain ⟨z0, z1, zl, zf⟩ := Z9.out.cells2
    go_wp2_with fail
    clear z0 z1 zl zf
    go_loopw [14, 15] (fun t i wr => ∃ k : Nat, k ≤ N ∧ i = .int .i64 k ∧ t = .int .i64 ((memTo f k).length : Nat) ∧ Blk wr A 24 #[.slice a5 r.length c5, .int .i64 (U : Int)] ∧ Bs wr a5 r.length c5 r ∧ Uk .i64 wr a7 P c7 (memTo f N) ∧ Below w.heap.size w wr) (fun _ i _ => N - (intOf i).toNat)
    case atStart => exact ⟨0, Nat.zero_le _, rfl, rfl, Z9.out, Y9.out, M9.out, Q9.out⟩
    case round =>
      obtain ⟨k, hk, rfl, rfl, hz0, hy0, hm0, hq0⟩ := hrel
      generalize wr = w10 at *
      have Z10 := Lib.hid hz0
      have Y10 := Lib.hid hy0
      have M10 := Lib.hid hm0
      have Q10 := Lib.hid hq0
      clear hz0 hy0 hm0 hq0
      have hk0 : (0 : Int) ≤ k := by omega
      have hlk := memTo_len f k
      obtain ⟨z0, z1, zl, zf⟩ := Z10.out.cells2
      obtain ⟨K, hK⟩ : ∃ K, (memTo f k).length = K := ⟨_, rfl⟩
      have HK := Lib.hid hK
      by_cases hlt : k < N
      · have hlt2 : (k : Int) < N := by omega
        rcases hbit : f k with _ | _
        · have HE := Lib.hid (memTo_no hbit)
          have H10 := Lib.hid (fun w a c (h : Bs w a r.length c r) => H9.out w a c h k)
          rw [hbit] at H10
          rw [hK] at hlk ⊢
          clear hbit hK
          go_wp2_with fail
          with_reducible refine (H8.out _ _ _ Y10.out).mono ?_
          rintro e w11 ⟨rfl, q⟩
          clear z0 z1 zl zf
          have Q11 := Lib.hid (bthen Q10.out q)
          have Y11 := Lib.hid (Y10.out.below q)
          have Z11 := Lib.hid (Z10.out.below q Z10.out.lt)
          have M11 := Lib.hid (M10.out.below q)
          clear q 
          obtain ⟨z0, z1, zl, zf⟩ := Z11.out.cells2
          go_wp2_with fail
          with_reducible refine (H10.out _ _ _ Y11.out).mono ?_
          rintro e w12 ⟨rfl, q⟩
          clear z0 z1 zl zf
          have Q12 := Lib.hid (bthen Q11.out q)
          have Y12 := Lib.hid (Y11.out.below q)
          have Z12 := Lib.hid (Z11.out.below q Z11.out.lt)
          have M12 := Lib.hid (M11.out.below q)
          clear q 
          obtain ⟨z0, z1, zl, zf⟩ := Z12.out.cells2
          go_wp2
          go_roundw
          case rel => exact ⟨k + 1, by omega, by go_num, by rw [HE.out, HK.out], Z12.out, Y12.out, M12.out, Q12.out⟩
          case measure => simp [intOf]; omega
        · have HE := Lib.hid (memTo_yes hbit)
          have hlp := memTo_lt hlt hbit
          have hat := memTo_at hlt hbit
          have H10 := Lib.hid (fun w a c (h : Bs w a r.length c r) => H9.out w a c h k)
          rw [hbit] at H10
          rw [HP.out, hK] at hlp
          rw [hK] at hat hlk ⊢
          obtain ⟨hl0, hat2⟩ := List.getElem?_eq_some_iff.1 hat
          have HAT := Lib.hid hat2
          have hlp2 : (K : Int) < P := by omega
          have HEL : Hid ((memTo f (k + 1)).length = K + 1) := by rw [Hid, HE.out, List.length_append, HK.out]; rfl
          clear hbit hK hat
          go_wp2_with fail
          with_reducible refine (H8.out _ _ _ Y10.out).mono ?_
          rintro e w11 ⟨rfl, q⟩
          clear z0 z1 zl zf
          have Q11 := Lib.hid (bthen Q10.out q)
          have Y11 := Lib.hid (Y10.out.below q)
          have Z11 := Lib.hid (Z10.out.below q Z10.out.lt)
          have M11 := Lib.hid (M10.out.below q)
          clear q 
          obtain ⟨z0, z1, zl, zf⟩ := Z11.out.cells2
          go_wp2_with fail
          with_reducible refine (H10.out _ _ _ Y11.out).mono ?_
          rintro e w12 ⟨rfl, q⟩
          clear z0 z1 zl zf
          have Q12 := Lib.hid (bthen Q11.out q)
          have Y12 := Lib.hid (Y11.out.below q)
          have Z12 := Lib.hid (Z11.out.below q Z11.out.lt)
          have M12 := Lib.hid (M11.out.below q)
          clear q 
          obtain ⟨z0, z1, zl, zf⟩ := Z12.out.cells2
          obtain ⟨mb, mo, ml, hma, hmb, hmc⟩ := M12.out.at_ hlp
          rw [HAT.out] at hmc
          subst hma
          go_wp2_with fail
          go_roundw
          case rel => exact ⟨k + 1, by omega, by go_num, by rw [HEL.out]; go_num, Z12.out, Y12.out, M12.out, Q12.out⟩
          case measure => simp [intOf]; omega
      · obtain rfl : k = N := by omega
        have hlt2 : ¬ (k : Int) < k := by omega
        obtain rfl : K = P := by rw [← hK]; exact HP.out
        rw [hK]
        clear hK
        go_wp2_with fail
        with_reducible refine (H8.out _ _ _ Y10.out).mono ?_
        rintro e w11 ⟨rfl, q⟩
        clear z0 z1 zl zf
        have Q11 := Lib.hid (bthen Q10.out q)
        have Y11 := Lib.hid (Y10.out.below q)
        have Z11 := Lib.hid (Z10.out.below q Z10.out.lt)
        have M11 := Lib.hid (M10.out.below q)
        clear q 
        obtain ⟨z0, z1, zl, zf⟩ := Z11.out.cells2
        go_wp2_with fail
        go_ret
        exact ⟨rfl, Q11.out⟩
end Go.Proofs.Ytfflfahhfhnkdaa.bitstringNamed
