/-
  The law ElementWraps: for every input it returns true, and each argument reads afterwards as it read before. No further condition.
-/
import Derived.Deep.Cut
import Derived.Test.YtkkomaohcijhnaaPk03
import Derived.Test.YtkkomaohcijhnaaPk04
namespace Go.Proofs.Ytkkomaohcijhnaa.elementWraps
open Go.RowKit
set_option maxRecDepth 100000 in
set_option maxHeartbeats 16000000 in
theorem walk {w : World} {a : Option Addr} {n c : Nat} {ss : List Sl} {tc tn : Int} {k : Bool} (hx : Rw w a n c ss) (hM : ∀ s ∈ ss, s.n ≤ 140737488351232) :
    Calls Try.prog 6 #[.agg #[.int .i64 tc, .int .i64 tn], .bool k, .slice a n c] w fun e w' => e = .returned (.bool true) ∧ Below w.heap.size w w' := by
  have HL := Lib.hid hx.len
  have HLS := Lib.hid hx.lens
  have HB := Lib.hid (tot_bd hM)
  have HBE := Lib.hid hM
  have hcm : n ≤ 9223372036854775807 := by have := hx.1.2.1; have := hx.1.2.2.1; unfold maxLen at this; omega
  obtain ⟨A, hA⟩ : ∃ A, w.heap.size = A := ⟨_, rfl⟩
  have Q1 := Lib.hid (bal (Below.refl w.heap.size w) (.cells #[.int .i64 tc, .int .i64 tn] 40))
  have X1 := Lib.hid (hx.alloc (.cells #[.int .i64 tc, .int .i64 tn] 40))
  have A1 : Hid (Blk (w.alloc (.cells #[.int .i64 tc, .int .i64 tn] 40)) A 40 #[.int .i64 tc, .int .i64 tn]) := by rw [← hA]; exact Blk.new _ _ _
  clear hx hM
  go_enter Try.func6, Try.ntmps6
  go_wp2_with fail
  generalize w.alloc (.cells #[.int .i64 tc, .int .i64 tn] 40) = w1 at *
  clear hA
  go_loop [7, 8] (fun s i => ∃ j : Nat, j ≤ n ∧ j ≤ 60 ∧ i = .int .i64 j ∧ s = .int .i64 (tot (ss.take j) : Nat)) (fun _ i => n - (intOf i).toNat)
  case atStart => exact ⟨0, Nat.zero_le _, Nat.zero_le _, rfl, rfl⟩
  case round =>
    obtain ⟨j, hj, hj6, rfl, rfl⟩ := hrel
    have hj0 : (0 : Int) ≤ j := by omega
    have hjw : IntKind.i64.wrap ((j : Int) + 1) = (j : Int) + 1 := by rw [IntKind.wrap_i64]; omega
    by_cases hlt : j < n
    · have hlt2 : (j : Int) < n := by omega
      by_cases h60 : j < 60
      · have h602 : (j : Int) < 60 := by omega
        obtain ⟨b1, o1, hjl, rfl, h1, c1, s1⟩ := X1.out.at_ hlt
        have TT := Lib.hid (tot_take hjl)
        have hb1 := HB.out j
        have hb2 := HBE.out _ (List.getElem_mem hjl)
        obtain ⟨N, hN⟩ : ∃ N, tot (ss.take j) = N := ⟨_, rfl⟩
        rw [hN] at TT hb1 ⊢
        obtain ⟨x, hxx⟩ : ∃ x, ss[j] = x := ⟨_, rfl⟩
        rw [hxx] at TT c1 hb2
        clear hN hxx s1
        obtain ⟨xa, xn, xc, xl⟩ := x
        dsimp only at TT c1 hb2
        have hsum : N + xn ≤ 9223372036854775807 := by
          have : j * 140737488351232 ≤ 59 * 140737488351232 := Nat.mul_le_mul_right _ (by omega)
          omega
        have v1 : IntKind.i64.wrap ((N : Int) + xn) = (N : Int) + xn := by rw [IntKind.wrap_i64]; omega
        clear hb1 hb2 hsum
        go_wp2_with fail
        go_round
        case rel => exact ⟨j + 1, by omega, by omega, by go_num, by rw [TT.out]; go_num⟩
        case measure => simp [intOf]; omega
      · have h602 : ¬ (j : Int) < 60 := by omega
        have h50 : (50 : Int) < n := by omega
        have HA1 := Lib.hid (awakeEl_any w1)
        generalize tot (ss.take j) = N at *
        go_wp2_with fail
        with_reducible refine HA1.out.mono ?_
        rintro e w2 ⟨rfl, q⟩
        have Q2 := Lib.hid (bthen Q1.out q)
        have HA2 := Lib.hid (awakeEl_any w2)
        clear q
        go_wp2_with fail
        with_reducible refine HA2.out.mono ?_
        rintro e w3 ⟨rfl, q⟩
        have Q3 := Lib.hid (bthen Q2.out q)
        clear q
        go_wp2_with fail
        go_ret
        exact ⟨rfl, Q3.out⟩
    · obtain rfl : j = n := by omega
      have hlt2 : ¬ (j : Int) < j := by omega
      have e : ss.take j = ss := List.take_of_length_le (by have := HL.out; omega)
      rw [e]
      have HE := Lib.hid e
      clear e HB HBE
      have HA1 := Lib.hid (awakeEl_any w1)
      obtain ⟨N, hN⟩ : ∃ N, tot ss = N := ⟨_, rfl⟩
      have HN := Lib.hid hN
      rw [hN]
      clear hN
      rcases h50 : decide ((50 : Int) < j) with _ | _
      · have g50 := of_decide_eq_false h50
        rcases h20 : decide ((2000 : Int) < N) with _ | _
        · have g20 := of_decide_eq_false h20
          have g60 : j ≤ 60 := by omega
          go_wp2_with fail
          with_reducible refine HA1.out.mono ?_
          rintro e w2 ⟨rfl, q⟩
          have Q2 := Lib.hid (bthen Q1.out q)
          have X2 := Lib.hid (X1.out.below q)
          have A2 := Lib.hid (A1.out.below q A1.out.lt)
          clear q HA1 Q1 X1 A1
          obtain ⟨t0, t1, tl, tf⟩ := A2.out.cells2
          have htt : tot ss ≤ 900000 := by have := HN.out; omega
          have H3 := Lib.hid (wrap_any tc tn k X2.out (by omega) htt)
          go_wp2_with fail
          with_reducible refine H3.out.mono ?_
          rintro e w3 ⟨a3, c3, rfl, ho, q⟩
          have Q3 := Lib.hid (bthen Q2.out q)
          have X3 := Lib.hid (X2.out.below q)
          have A3 := Lib.hid (A2.out.below q A2.out.lt)
          have B3 := Lib.hid ho.bs
          clear q ho Q2 X2 A2 H3 t0 t1 tl tf
          obtain ⟨t0, t1, tl, tf⟩ := A3.out.cells2
          have H4 := Lib.hid (ref_wrap_any tc tn k X3.out (by omega) htt)
          go_wp2_with fail
          with_reducible refine H4.out.mono ?_
          rintro e w4 ⟨a4, c4, rfl, ho, q⟩
          have Q4 := Lib.hid (bthen Q3.out q)
          have X4 := Lib.hid (X3.out.below q)
          have B4 := Lib.hid (B3.out.below q)
          have C4 := Lib.hid ho
          clear q ho Q3 X3 A3 B3 H4 t0 t1 tl tf
          have H5 := Lib.hid (sequence_any X4.out (by omega) htt)
          go_wp2_with fail
          with_reducible refine H5.out.mono ?_
          rintro e w5 ⟨a5, c5, rfl, ho, q⟩
          have Q5 := Lib.hid (bthen Q4.out q)
          have X5 := Lib.hid (X4.out.below q)
          have B5 := Lib.hid (B4.out.below q)
          have C5 := Lib.hid (C4.out.below q)
          have S5 := Lib.hid ho.bs
          clear q ho Q4 X4 B4 C4 H5
          have H6 := Lib.hid (ref_wrap_any 0 16 true X5.out (by omega) htt)
          go_wp2_with fail
          with_reducible refine H6.out.mono ?_
          rintro e w6 ⟨a6, c6, rfl, ho, q⟩
          have Q6 := Lib.hid (bthen Q5.out q)
          have X6 := Lib.hid (X5.out.below q)
          have B6 := Lib.hid (B5.out.below q)
          have C6 := Lib.hid (C5.out.below q)
          have S6 := Lib.hid (S5.out.below q)
          have D6 := Lib.hid ho
          clear q ho Q5 X5 B5 C5 S5 H6
          have H7 := Lib.hid (bytes_any B6.out C6.out)
          have H8 := Lib.hid (bytes_any S6.out D6.out)
          rw [eqB_self] at H7 H8
          clear B6 C6 D6
          have hcl : (cat ss).length = N := by rw [cat_tot HLS.out, HN.out]
          have hcl2 : (cat ss).length ≤ 2147483647 := by omega
          have HSE : Hid (encR 0 16 true (cat ss) = (encB 0 16 true (cat ss), 0)) := rfl
          rw [HSE.out] at H8 S6 ⊢
          dsimp only at H8 S6 ⊢
          obtain ⟨e1, he1⟩ : ∃ z, (encR tc tn k (cat ss)).2 = z := ⟨_, rfl⟩
          rw [he1]
          have heb : (e1 != e1) = false := by simp
          go_wp2_with fail
          with_reducible refine H7.out.mono ?_
          rintro e w' ⟨rfl, rfl⟩
          go_wp2_with fail
          with_reducible refine H8.out.mono ?_
          rintro e w' ⟨rfl, rfl⟩
          clear H7 H8 heb he1
          go_wp2_with fail
          obtain ⟨L, hLs⟩ : ∃ L, encB 0 16 true (cat ss) = L := ⟨_, rfl⟩
          have HLs := Lib.hid hLs
          rw [hLs] at S6 ⊢
          clear hLs hcl hcl2 h50 h20 g50 g20
          go_loopw [17, 18] (fun wh i wr => ∃ m : Nat, m ≤ j ∧ i = .int .i64 m ∧ wh = .bool (allOne (ss.take m)) ∧ Rw wr a j c ss ∧ Bs wr a5 L.length c5 L ∧ Below w.heap.size w wr) (fun _ i _ => j - (intOf i).toNat)
          case atStart => exact ⟨0, Nat.zero_le _, rfl, rfl, X6.out, S6.out, Q6.out⟩
          case round =>
            obtain ⟨m, hm, rfl, rfl, hx7, hs7, hq7⟩ := hrel
            have X7 := Lib.hid hx7
            have S7 := Lib.hid hs7
            have Q7 := Lib.hid hq7
            clear hx7 hs7 hq7 X6 S6 Q6
            have hm0 : (0 : Int) ≤ m := by omega
            by_cases hlt3 : m < j
            · have hlt4 : (m : Int) < j := by omega
              obtain ⟨b1, o1, hml, rfl, h1, c1, s1⟩ := X7.out.at_ hlt3
              have TA := Lib.hid (allOne_take hml)
              have hxb : ss[m].n ≤ 1000000 := by
                have e1 := tot_take hml
                have e2 := tot_take_le ss (m + 1)
                have := HN.out
                omega
              obtain ⟨x, hxx⟩ : ∃ x, ss[m] = x := ⟨_, rfl⟩
              rw [hxx] at TA c1 hxb
              have s1' : Bs wr x.a x.n x.c x.l := by rw [← hxx]; exact s1
              clear hxx s1
              obtain ⟨xa, xn, xc, xl⟩ := x
              dsimp only at TA c1 hxb s1'
              have HO := Lib.hid (ref_one_any s1' hxb)
              clear s1'
              obtain ⟨B0, hB0⟩ : ∃ B0, allOne (ss.take m) = B0 := ⟨_, rfl⟩
              rw [hB0] at TA ⊢
              clear hB0
              generalize oneR xl = R at *
              obtain ⟨⟨xc', xn', xk, xs, xb, xe⟩, C, O⟩ := R
              unfold elV erV at HO
              dsimp only at HO TA
              go_wp2_with fail
              with_reducible refine HO.out.mono ?_
              rintro e w8 ⟨rfl, q⟩
              have X8 := Lib.hid (X7.out.below q)
              have S8 := Lib.hid (S7.out.below q)
              have Q8 := Lib.hid (bthen Q7.out q)
              clear q HO c1 X7 S7 Q7
              obtain ⟨G, hG⟩ : ∃ G, w8.heap.size = G := ⟨_, rfl⟩
              obtain ⟨D, hD⟩ : ∃ D, G + 1 = D := ⟨_, rfl⟩
              obtain ⟨w9, hw9⟩ : ∃ w9, (w8.alloc (.cells #[.int .i64 xc', .int .i64 xn', .bool xk, .int .i64 xs, .int .i64 xb, .int .i64 xe] 25)).alloc (.cells #[.int .i64 C, .int .i64 O] 28) = w9 := ⟨_, rfl⟩
              have B9 : Hid (Below w8.heap.size w8 w9) := by
                rw [← hw9]
                exact bal (bal (Below.refl _ _) _) _
              have X9 := Lib.hid (X8.out.below B9.out)
              have S9 := Lib.hid (S8.out.below B9.out)
              have Q9 := Lib.hid (bthen Q8.out B9.out)
              have E9 : Hid (Blk w9 D 28 #[.int .i64 C, .int .i64 O]) := by
                rw [← hw9, ← hD, ← hG]
                have := Blk.new (w8.alloc (.cells #[.int .i64 xc', .int .i64 xn', .bool xk, .int .i64 xs, .int .i64 xb, .int .i64 xe] 25)) 28 #[.int .i64 C, .int .i64 O]
                rw [Hid]
                simpa using this
              have HW9 := Lib.hid hw9
              have HDD := Lib.hid hD
              clear hw9 hD X8 S8 Q8 B9
              go_upto_region 19 with fail
              rw [HW9.out, HDD.out]
              clear HW9 HDD hG
              obtain ⟨e0, e1', dl, df⟩ := E9.out.cells2
              clear df
              rcases B0 with _ | _
              · go_wp2_with fail
                go_roundw
                case rel => exact ⟨m + 1, by omega, by go_num, by rw [TA.out]; rfl, X9.out, S9.out, Q9.out⟩
                case measure => simp [intOf]; omega
              · by_cases hc : C = 0
                · subst hc
                  go_wp2_with fail
                  go_roundw
                  case rel => exact ⟨m + 1, by omega, by go_num, by rw [TA.out]; rfl, X9.out, S9.out, Q9.out⟩
                  case measure => simp [intOf]; omega
                · have hcb : ((C : Int) == 0) = false := by rw [beq_eq_false_iff_ne]; omega
                  have TA2 : Hid (allOne (ss.take (m + 1)) = false) := by rw [Hid, TA.out]; simp [hc]
                  go_wp2_with fail
                  go_roundw
                  case rel => exact ⟨m + 1, by omega, by go_num, by rw [TA2.out], X9.out, S9.out, Q9.out⟩
                  case measure => simp [intOf]; omega
            · obtain rfl : m = j := by omega
              have hlt4 : ¬ (m : Int) < m := by omega
              rw [HE.out]
              have hcl : (cat ss).length = N := by rw [cat_tot HLS.out, HN.out]
              have hcl2 : (cat ss).length ≤ 2147483647 := by have := HN.out; omega
              have hso := seq_one hcl2
              have hsl := seq_list (l := cat ss)
              have hln := encB_len 0 16 true (cat ss)
              have hlo := lenOct_bd (n := (cat ss).length) (by omega)
              have hce := fun (h : allOne ss = true) => cat_els ss ((lenOct (cat ss).length).length + 1) (allOne_iff.1 h)
              have hrz := rdEls_zero (cat ss) ((lenOct (cat ss).length).length + 1)
              rw [HLs.out] at hso hsl hln
              rw [HL.out] at hce
              have hLb : L.length ≤ 1000000 := by have := HN.out; omega
              generalize (lenOct (cat ss).length).length + 1 = BO at *
              have HO := Lib.hid (one_any S7.out hLb)
              have HLI := Lib.hid (fun v (h : Bs v a5 L.length c5 L) => list_any h hLb (BO : Nat) (L.length : Nat))
              rw [hso] at HO
              unfold ElsPost at HLI
              rw [hsl] at HLI
              unfold elV erV at HO
              dsimp only at HO
              have HCE := Lib.hid hce
              have HRZ := Lib.hid hrz
              generalize rdEls (cat ss) BO = R at *
              obtain ⟨es, C, O⟩ := R
              unfold erV at HLI
              dsimp only at HLI HCE HRZ
              clear hso hsl hln hlo hce hrz hcl hcl2
              go_wp2_with fail
              with_reducible refine HO.out.mono ?_
              rintro e w8 ⟨rfl, q⟩
              have S8 := Lib.hid (S7.out.below q)
              have Q8 := Lib.hid (bthen Q7.out q)
              clear q HO X7 S7 Q7
              obtain ⟨G, hG⟩ : ∃ G, w8.heap.size = G := ⟨_, rfl⟩
              obtain ⟨D, hD⟩ : ∃ D, G + 1 = D := ⟨_, rfl⟩
              obtain ⟨w9, hw9⟩ : ∃ w9, (w8.alloc (.cells #[.int .i64 0, .int .i64 16, .bool true, .int .i64 0, .int .i64 BO, .int .i64 L.length] 25)).alloc (.cells #[.int .i64 0, .int .i64 0] 28) = w9 := ⟨_, rfl⟩
              have B9 : Hid (Below w8.heap.size w8 w9) := by
                rw [← hw9]
                exact bal (bal (Below.refl _ _) _) _
              have S9 := Lib.hid (S8.out.below B9.out)
              have Q9 := Lib.hid (bthen Q8.out B9.out)
              have T9 : Hid (Blk w9 G 25 #[.int .i64 0, .int .i64 16, .bool true, .int .i64 0, .int .i64 BO, .int .i64 L.length]) := by
                rw [← hw9, ← hG]
                exact (Blk.new w8 25 #[.int .i64 0, .int .i64 16, .bool true, .int .i64 0, .int .i64 BO, .int .i64 L.length]).alloc _
              have E9 : Hid (Blk w9 D 28 #[.int .i64 0, .int .i64 0]) := by
                rw [← hw9, ← hD, ← hG]
                have := Blk.new (w8.alloc (.cells #[.int .i64 0, .int .i64 16, .bool true, .int .i64 0, .int .i64 BO, .int .i64 L.length] 25)) 28 #[.int .i64 0, .int .i64 0]
                rw [Hid]
                simpa using this
              have HW9 := Lib.hid hw9
              have HDD := Lib.hid hD
              clear hw9 hD S8 Q8 B9
              go_upto_region 21 with fail
              rw [HW9.out, HDD.out]
              clear HW9 HDD hG
              obtain ⟨t0, t1, t2, t3, t4, t5⟩ := T9.out.cellsE
              obtain ⟨e0, e1', dl, df⟩ := E9.out.cells2
              clear df
              go_wp2_with fail
              with_reducible refine (HLI.out _ S9.out).mono ?_
              rintro e w10 ⟨a10, c10, rfl, _, q⟩
              have T10 := Lib.hid (T9.out.below q T9.out.lt)
              have E10 := Lib.hid (E9.out.below q E9.out.lt)
              have Q10 := Lib.hid (bthen Q9.out q)
              clear q t0 t1 t2 t3 t4 t5 e0 e1' dl T9 E9 S9 Q9 HLI
              obtain ⟨M, hMz⟩ : ∃ M, w10.heap.size = M := ⟨_, rfl⟩
              have T11 := Lib.hid (T10.out.alloc (.cells #[.int .i64 C, .int .i64 O] 28))
              have E11 := Lib.hid (E10.out.alloc (.cells #[.int .i64 C, .int .i64 O] 28))
              have Q11 := Lib.hid (bal Q10.out (.cells #[.int .i64 C, .int .i64 O] 28))
              have J11 : Hid (Blk (w10.alloc (.cells #[.int .i64 C, .int .i64 O] 28)) M 28 #[.int .i64 C, .int .i64 O]) := by rw [← hMz]; exact Blk.new _ _ _
              go_upto_region 22 with fail
              generalize w10.alloc (.cells #[.int .i64 C, .int .i64 O] 28) = w11 at *
              clear hMz T10 E10 Q10
              obtain ⟨t0, t1, t2, t3, t4, t5⟩ := T11.out.cellsE
              obtain ⟨e0, e1', dl, df⟩ := E11.out.cells2
              obtain ⟨j0, j1, jl, jf⟩ := J11.out.cells2
              clear df jf
              rcases hw : allOne ss with _ | _
              · rw [hw] at HCE
                go_wp2_with fail
                go_ret
                exact ⟨rfl, Q11.out⟩
              · have h1 := HCE.out hw
                obtain rfl : C = 0 := h1.1
                obtain rfl : O = 0 := HRZ.out rfl
                have h2 : es.length = m := h1.2
                rw [h2]
                clear h1 h2 HCE HRZ
                go_wp2_with fail
                go_ret
                exact ⟨by simp, Q11.out⟩
        · have g20 := of_decide_eq_true h20
          go_wp2_with fail
          with_reducible refine HA1.out.mono ?_
          rintro e w2 ⟨rfl, q⟩
          have Q2 := Lib.hid (bthen Q1.out q)
          have HA2 := Lib.hid (awakeEl_any w2)
          clear q
          go_wp2_with fail
          with_reducible refine HA2.out.mono ?_
          rintro e w3 ⟨rfl, q⟩
          have Q3 := Lib.hid (bthen Q2.out q)
          clear q
          go_wp2_with fail
          go_ret
          exact ⟨rfl, Q3.out⟩
      · have g50 := of_decide_eq_true h50
        go_wp2_with fail
        with_reducible refine HA1.out.mono ?_
        rintro e w2 ⟨rfl, q⟩
        have Q2 := Lib.hid (bthen Q1.out q)
        have HA2 := Lib.hid (awakeEl_any w2)
        clear q
        go_wp2_with fail
        with_reducible refine HA2.out.mono ?_
        rintro e w3 ⟨rfl, q⟩
        have Q3 := Lib.hid (bthen Q2.out q)
        clear q
        go_wp2_with fail
        go_ret
        exact ⟨rfl, Q3.out⟩
end Go.Proofs.Ytkkomaohcijhnaa.elementWraps
namespace Go.Proofs.Ytkkomaohcijhnaa.elementWraps
open Go.ChangeShapes Go.WideShapes Go.ChangeAt Go.RowKit
open Go.ChangeMaps (open_string shut_string)
set_option linter.unusedVariables false
set_option maxRecDepth 100000 in
theorem lifted (os : Os) (started : os.Started) (H : Type) (enc : TypeId × Value → H) :
    ReturnsInHanded {} Try.checked os 6 .any (Rows.elementWrapsSpec.pre6 enc Try.prog Try.f6 Rows.elementWrapsRow.domain false) (Rows.elementWrapsSpec.post enc Try.prog Try.f6 false true false false) := by
  refine returnsInHanded_of_change_sized (C := Try.checked) ownKnob_none started (by kernel_rfl) Try.func6
    (ChangeSpec.witness6 (enc := enc) (C := Try.checked) false ⟨#[], #[.agg #[.int .i64 0, .int .i64 0], .bool false, .slice none 0 0], []⟩ 8 (by kernel_rfl) (by kernel_rfl) (by kernel_rfl) (by kernel_rfl)) ?_
  intro W base args ds gs before hval0 hW hcnd hsz0 _
  have hsz : (DataW.weightsEach Try.prog (Try.f6.params.toList ++ Rows.elementWrapsSpec.plain.varTypes Try.prog) (ds ++ gs)).all (· ≤ reachBytes) = true := hsz0
  clear hsz0
  have hval : ∀ (j : Nat) t v, Try.f6.params[j]? = some t → args[j]? = some v → Value.okWide Try.prog W .any base t v := hval0
  have hW' := hW
  obtain ⟨p, q, hA0, hV, rfl, hfz, hnd⟩ := hW
  have hA : DataW.TrodAll enc Try.prog W 0 (fun _ => true) true Try.f6.params.toList args.toList ds p := hA0
  rw [Try.params6] at hA hval
  obtain ⟨v0, vs0, d0, ds0, p0, q0, hargs, rfl, rfl, h0, r0⟩ := trodAll_cons hA
  obtain ⟨v1, vs1, d1, ds1, p1, q1, rfl, rfl, rfl, h1, r1⟩ := trodAll_cons r0
  obtain ⟨v2, vs2, d2, ds2, p2, q2, rfl, rfl, rfl, h2, r2⟩ := trodAll_cons r1
  obtain ⟨rfl, rfl, rfl⟩ := trodAll_nil r2
  obtain rfl : args = #[v0, v1, v2] := by cases args; simp_all
  obtain ⟨rfl, rfl⟩ := trodVars_none hV
  have k0 := h0
  have lt0 : ∀ x ∈ p0, x.block < W.heap.size := by obtain ⟨m, hm⟩ := k0; exact DataW.trod_lt m _ _ _ hm
  obtain ⟨x0, y0, rfl⟩ := pairE_opened (hval 0 40 v0 rfl rfl) h0
  have k1 := h1
  have lt1 : ∀ x ∈ p1, x.block < W.heap.size := by obtain ⟨m, hm⟩ := k1; exact DataW.trod_lt m _ _ _ hm
  obtain ⟨x1, rfl, rfl, rfl⟩ := open_bool Try.underlying4 (hval 1 4 v1 rfl rfl) h1
  have k2 := h2
  have lt2 : ∀ x ∈ p2, x.block < W.heap.size := by obtain ⟨m, hm⟩ := k2; exact DataW.trod_lt m _ _ _ hm
  obtain ⟨a2, n2, c2, rfl⟩ := okWide_slice Try.underlying41 (hval 2 41 v2 rfl rfl)
  obtain ⟨l2, b2, m2⟩ := rw_opened h2 (sized_at hsz 2 rfl rfl)
  clear hA0 hval0
  refine (walk b2 m2).mono fun e W' ⟨he, bel⟩ => ?_
  subst he
  exact ⟨_, rfl, _, _, _, [], _, [], hW', trodAll_mk1 (shut_bool Try.underlying4 _), (trodAll_cons_mk (Below.trod laidOut_ok (by kernel_rfl) (of_decide_eq_true (by kernel_rfl)) k0 bel lt0) (trodAll_cons_mk (Below.trod laidOut_ok (by kernel_rfl) (of_decide_eq_true (by kernel_rfl)) k1 bel lt1) (trodAll_cons_mk (Below.trod laidOut_ok (by kernel_rfl) (of_decide_eq_true (by kernel_rfl)) k2 bel lt2) trodAll_mk0))), rfl, bel.frame _, fun h => by cases h⟩
theorem over : Rows.elementWrapsRow.holds Try.pinned (OpenSpec.ofChange Rows.elementWrapsSpec) :=
  OpenClaim.holds_of_wide 6 Try.f6 rfl rfl rfl rfl rfl rfl rfl ⟨rfl, rfl, rfl, rfl, rfl⟩ rfl rfl rfl rfl rfl (by kernel_rfl) Try.func6 (by kernel_rfl)
    (of_decide_eq_true (by kernel_rfl)) (by unfold Func.isWrapper; first | (rw [if_pos (by decide +kernel)]; kernel_rfl) | (rw [if_neg (by decide +kernel)]; exact ⟨rfl, rfl⟩))
    (fun os started H enc _ => lifted os started H enc)
theorem proved : Rows.ElementWrapsSaid := over
#print axioms proved
end Go.Proofs.Ytkkomaohcijhnaa.elementWraps
