/-
  The law ElementSorts: for every input it returns true, and each argument reads afterwards as it read before. No further condition.
-/
import Derived.Test.YtkkomaohcijhnaaPk03
import Derived.Test.YtkkomaohcijhnaaPk04
import Derived.Test.YtkkomaohcijhnaaPk05
namespace Go.Proofs.Ytkkomaohcijhnaa.elementSorts
open Go.RowKit
theorem mem_tot {ss : List Sl} {s : Sl} (h : s ∈ ss) : s.n ≤ tot ss := by
  unfold tot
  induction ss with
  | nil => exact absurd h (by simp)
  | cons t r ih =>
    rw [List.map_cons, List.sum_cons]
    rcases List.mem_cons.1 h with rfl | h
    · omega
    · have := ih h; omega
set_option maxRecDepth 100000 in
set_option maxHeartbeats 16000000 in
theorem walk {w : World} {a b : Option Addr} {n c m d : Nat} {ss : List Sl} {us : List UInt8} (hx : Rw w a n c ss) (hM : ∀ s ∈ ss, s.n ≤ 140737488351232) (hu : Bs w b m d us) :
    Calls Try.prog 7 #[.slice a n c, .slice b m d] w fun e w' => e = .returned (.bool true) ∧ Below w.heap.size w w' := by
  obtain ⟨i0, hi, hz0, hz1, hz2⟩ := info_partsE info_bs
  have HL := Lib.hid hx.len
  have HB := Lib.hid (tot_bd hM)
  have HBE := Lib.hid hM
  have hcm : n ≤ 9223372036854775807 := by have := hx.1.2.1; have := hx.1.2.2.1; unfold maxLen at this; omega
  have hcu : m ≤ 9223372036854775807 := by have := hu.2.1; have := hu.2.2.1; unfold maxLen at this; omega
  have X1 := Lib.hid hx
  have U1 := Lib.hid hu
  clear hx hM hu
  have HA1 := Lib.hid (awakeEl_any w)
  go_enter Try.func7, Try.ntmps7
  go_wp2_with fail
  go_loop [5, 6] (fun s i => ∃ j : Nat, j ≤ n ∧ j ≤ 60 ∧ i = .int .i64 j ∧ s = .int .i64 (tot (ss.take j) : Nat)) (fun _ i => n - (intOf i).toNat)
  case atStart => exact ⟨0, Nat.zero_le _, Nat.zero_le _, rfl, rfl⟩
  case round =>
    obtain ⟨j, hj, hj6, rfl, rfl⟩ := hrel
    have hj0 : (0 : Int) ≤ j := by omega
    have hjw : IntKind.i64.wrap ((j : Int) + 1) = (j : Int) + 1 := by rw [IntKind.wrap_i64]; omega
    by_cases hlt : j < n
    · have hlt2 : (j : Int) < n := by omega
      by_cases h60 : j < 60
      · have h602 : (j : Int) < 60 := by omega
        obtain ⟨b1, o1, hjl, rfl, h1, c1, s1⟩ := X1.out.at_ hlt
        have TT := Lib.hid (tot_take hjl)
        have hb1 := HB.out j
        have hb2 := HBE.out _ (List.getElem_mem hjl)
        obtain ⟨N, hN⟩ : ∃ N, tot (ss.take j) = N := ⟨_, rfl⟩
        rw [hN] at TT hb1 ⊢
        obtain ⟨x, hxx⟩ : ∃ x, ss[j] = x := ⟨_, rfl⟩
        rw [hxx] at TT c1 hb2
        clear hN hxx s1
        obtain ⟨xa, xn, xc, xl⟩ := x
        dsimp only at TT c1 hb2
        have hsum : N + xn ≤ 9223372036854775807 := by
          have : j * 140737488351232 ≤ 59 * 140737488351232 := Nat.mul_le_mul_right _ (by omega)
          omega
        have v1 : IntKind.i64.wrap ((N : Int) + xn) = (N : Int) + xn := by rw [IntKind.wrap_i64]; omega
        clear hb1 hb2 hsum
        go_wp2_with fail
        go_round
        case rel => exact ⟨j + 1, by omega, by omega, by go_num, by rw [TT.out]; go_num⟩
        case measure => simp [intOf]; omega
      · have h602 : ¬ (j : Int) < 60 := by omega
        have h50 : (50 : Int) < n := by omega
        generalize tot (ss.take j) = N at *
        go_wp2_with fail
        with_reducible refine HA1.out.mono ?_
        rintro e w2 ⟨rfl, q⟩
        have Q2 := Lib.hid q
        have HA2 := Lib.hid (awakeEl_any w2)
        clear q
        go_wp2_with fail
        with_reducible refine HA2.out.mono ?_
        rintro e w3 ⟨rfl, q⟩
        have Q3 := Lib.hid (bthen Q2.out q)
        clear q
        go_wp2_with fail
        go_ret
        exact ⟨rfl, Q3.out⟩
    · obtain rfl : j = n := by omega
      have hlt2 : ¬ (j : Int) < j := by omega
      have e : ss.take j = ss := List.take_of_length_le (by have := HL.out; omega)
      rw [e]
      clear e HB HBE
      obtain ⟨N, hN⟩ : ∃ N, tot ss = N := ⟨_, rfl⟩
      have HN := Lib.hid hN
      rw [hN]
      clear hN
      rcases h50 : decide ((50 : Int) < j) with _ | _
      · have g50 := of_decide_eq_false h50
        rcases h20 : decide ((2000 : Int) < N) with _ | _
        · have g20 := of_decide_eq_false h20
          rcases h60 : decide ((60 : Int) < m) with _ | _
          · have g60 := of_decide_eq_false h60
            have hjz : j ≤ 1000000 := by omega
            have hls : ∀ s ∈ ss, s.n ≤ 1000000 := fun s hs => by have := mem_tot hs; have := HN.out; omega
            go_wp2_with fail
            with_reducible refine HA1.out.mono ?_
            rintro e w2 ⟨rfl, q⟩
            have Q2 := Lib.hid q
            have X2 := Lib.hid (X1.out.below q)
            have U2 := Lib.hid (U1.out.below q)
            clear q HA1 X1 U1
            have H3 := Lib.hid (sorted_any X2.out hjz hls)
            go_wp2_with fail
            with_reducible refine H3.out.mono ?_
            rintro e w3 ⟨a3, c3, R3, rfl, ho, hr, q⟩
            have Q3 := Lib.hid (bthen Q2.out q)
            have X3 := Lib.hid (X2.out.below q)
            have U3 := Lib.hid (U2.out.below q)
            have L3 := Lib.hid ho.rw_
            have LS := Lib.hid hr
            clear q ho hr Q2 X2 U2 H3
            have H4 := Lib.hid (ref_sorted_any X3.out hjz)
            go_wp2_with fail
            with_reducible refine H4.out.mono ?_
            rintro e w4 ⟨a4, c4, R4, rfl, ho, hin, hr, q⟩
            have Q4 := Lib.hid (bthen Q3.out q)
            have X4 := Lib.hid (X3.out.below q)
            have U4 := Lib.hid (U3.out.below q)
            have L4 := Lib.hid (L3.out.below q)
            have M4 : Hid (Rw w4 a4 R4.length c4 R4) := ho.rw_ fun s hs => by
              obtain ⟨i, hi, rfl⟩ := List.getElem_of_mem (hin s hs)
              exact X4.out.2 i hi
            have hrl : R4.length = R3.length := by
              have h1 := congrArg List.length (hr.trans LS.out.symm)
              rwa [lsOf_len, lsOf_len] at h1
            rw [hrl] at M4 ⊢
            have H5 := Lib.hid (slices_self L4.out M4.out (LS.out.trans hr.symm))
            clear q ho hr hin Q3 X3 U3 L3 H4 hrl
            go_wp2_with fail
            with_reducible refine H5.out.mono ?_
            rintro e w5 ⟨rfl, k, rfl⟩
            have Q5 := Lib.hid (below_drewN Q4.out k)
            have X5 := Lib.hid (X4.out.drewN k)
            have U5 := Lib.hid (U4.out.drewN k)
            have L5 := Lib.hid (L4.out.drewN k)
            generalize w4.drewN k = w5 at *
            clear Q4 X4 U4 L4 M4 H5
            have H6 := Lib.hid (ordered_any X5.out)
            go_wp2_with fail
            with_reducible refine H6.out.mono ?_
            rintro e w6 ⟨rfl, q⟩
            have Q6 := Lib.hid (bthen Q5.out q)
            have X6 := Lib.hid (X5.out.below q)
            have U6 := Lib.hid (U5.out.below q)
            have L6 := Lib.hid (L5.out.below q)
            clear q Q5 X5 U5 L5 H6
            have H7 := Lib.hid (ref_ordered_any X6.out)
            go_wp2_with fail
            with_reducible refine H7.out.mono ?_
            rintro e w7 ⟨rfl, k, rfl⟩
            have Q7 := Lib.hid (below_drewN Q6.out k)
            have X7 := Lib.hid (X6.out.drewN k)
            have U7 := Lib.hid (U6.out.drewN k)
            have L7 := Lib.hid (L6.out.drewN k)
            generalize w6.drewN k = w7 at *
            clear Q6 X6 U6 L6 H7
            have H8 := Lib.hid (ordered_any L7.out)
            rw [LS.out, asc_ord (asc_srt (lsOf ss))] at H8
            obtain ⟨ob, hob⟩ : ∃ ob, ordR (lsOf ss) = ob := ⟨_, rfl⟩
            rw [hob]
            have hbb : (ob != ob) = false := by simp
            clear hob
            go_wp2_with fail
            with_reducible refine H8.out.mono ?_
            rintro e w8 ⟨rfl, q⟩
            have Q8 := Lib.hid (bthen Q7.out q)
            have X8 := Lib.hid (X7.out.below q)
            have U8 := Lib.hid (U7.out.below q)
            have L8 := Lib.hid (L7.out.below q)
            clear q Q7 X7 U7 L7 H8 hbb
            obtain ⟨G, hG⟩ : ∃ G, w8.heap.size = G := ⟨_, rfl⟩
            have Q9 := Lib.hid (bal Q8.out (.cells #[] 22))
            have X9 := Lib.hid (X8.out.alloc (.cells #[] 22))
            have U9 := Lib.hid (U8.out.alloc (.cells #[] 22))
            have L9 := Lib.hid (L8.out.alloc (.cells #[] 22))
            have E9 : Hid (OwnV (w8.alloc (.cells #[] 22)) G 22 (some ⟨G, 0, none⟩) 0 0 []) := by rw [← hG]; exact OwnV.lit w8 22 #[] w8.heap.size (Nat.le_refl _) (Nat.zero_le _)
            have z9 : G ≤ (w8.alloc (.cells #[] 22)).heap.size := by rw [← hG]; simp
            have hGw : Hid (w.heap.size ≤ G) := by rw [Hid, ← hG]; exact Q8.out.size
            have one : Hid (∀ u ∈ ss.map Sl.v, u.oneCell' = true) := fun u hu => by obtain ⟨s, _, rfl⟩ := List.mem_map.1 hu; rfl
            go_wp2_with (at_builtin; go_must (refine wpList_appV _ rfl _ _ 41 rfl G 22 i0 (.slice none 0 0) 24 Try.underlying41 hi hz0 rfl hz1 hz2 (some ⟨G, 0, none⟩) 0 0 [] rfl E9.out a j c (ss.map Sl.v) rfl X9.out.vw one.out (by unfold maxLen; omega) (by omega) z9 ?_))
            intro a10 c10 w10 ho10 hg10
            have B10 := Lib.hid (appV_below E9.out hg10 (Nat.le_refl G) z9)
            have hX10 : Hid (Below w8.heap.size w8 w10) := by rw [Hid, hG]; exact ((Below.refl G w8).alloc (by rw [hG]; exact Nat.le_refl _) _).trans B10.out
            have Q10 := Lib.hid (bthen Q8.out hX10.out)
            have X10 := Lib.hid (X8.out.below hX10.out)
            have U10 := Lib.hid (U8.out.below hX10.out)
            have L10 := Lib.hid (L8.out.below hX10.out)
            have O10 : Hid (OwnS w10 w.heap.size 22 a10 j c10 ss) := (OwnV.more ho10 hGw.out).s
            clear ho10 hg10 B10 hX10 z9 E9 Q9 X9 U9 L9 hG Q8 X8 U8 L8
            go_wp2_with fail
            go_loopw [8, 9] (fun mv iv wr => ∃ i : Nat, ∃ aM cM, ∃ M : List Sl, i ≤ m ∧ iv = .int .i64 i ∧ mv = .slice aM M.length cM ∧ OwnS wr w.heap.size 22 aM M.length cM M ∧ M.length ≤ j + i ∧ j ≤ M.length ∧ (∀ s ∈ M, s ∈ ss) ∧ (∀ x, x ∈ lsOf M ↔ x ∈ lsOf ss) ∧ Rw wr a j c ss ∧ Bs wr b m d us ∧ Rw wr a3 R3.length c3 R3 ∧ Below w.heap.size w wr) (fun _ iv _ => m - (intOf iv).toNat)
            case atStart => exact ⟨0, a10, c10, ss, Nat.zero_le _, rfl, by rw [HL.out], by rw [HL.out]; exact O10.out, by rw [HL.out]; exact Nat.le_refl _, by rw [HL.out]; exact Nat.le_refl _, fun s h => h, fun x => Iff.rfl, X10.out, U10.out, L10.out, Q10.out⟩
            case round =>
              obtain ⟨i, aM, cM, M, him, rfl, rfl, ho, hml, hml2, hin, hmem, hx, hu, hl3, hq⟩ := hrel
              have O4 := Lib.hid ho
              have I4 := Lib.hid hin
              have E4 := Lib.hid hmem
              have X4 := Lib.hid hx
              have U4 := Lib.hid hu
              have L4 := Lib.hid hl3
              have Q4 := Lib.hid hq
              clear ho hin hmem hx hu hl3 hq O10 X10 U10 L10 Q10
              have hi0 : (0 : Int) ≤ i := by omega
              have hiw : IntKind.i64.wrap ((i : Int) + 1) = (i : Int) + 1 := by rw [IntKind.wrap_i64]; omega
              by_cases hlt3 : i < m
              · have hlt4 : (i : Int) < m := by omega
                by_cases hj1 : 0 < j
                · have hj2 : (0 : Int) < j := by omega
                  have hj3 : ¬ (j : Int) = 0 := by omega
                  obtain ⟨bu, ou, hul, rfl, hub, cu⟩ := U4.out.at_ hlt3
                  obtain ⟨y, hy⟩ : ∃ y, us[i] = y := ⟨_, rfl⟩
                  rw [hy] at cu
                  clear hy hub hul
                  have hyb := byte_bd y
                  obtain ⟨q, hq⟩ : ∃ q, y.toNat % j = q := ⟨_, rfl⟩
                  have hqj : q < j := by rw [← hq]; exact Nat.mod_lt _ hj1
                  have r1 : (y.toNat : Int).tmod j = q := by rw [Int.tmod_eq_emod_of_nonneg (by omega)]; omega
                  have r2 : (y.toNat : Int) % j = q := by omega
                  have r3 : IntKind.i64.wrap (y.toNat : Int) = y.toNat := by rw [IntKind.wrap_i64]; omega
                  have r4 : IntKind.i64.wrap (q : Int) = q := by rw [IntKind.wrap_i64]; omega
                  have r5 : (0 : Int) ≤ q := by omega
                  have r6 : (q : Int) < j := by omega
                  clear hq
                  obtain ⟨b1, o1, hql, rfl, h1, c1, s1⟩ := X4.out.at_ hqj
                  have hqin := List.getElem_mem hql
                  obtain ⟨x, hxx⟩ : ∃ x, ss[q] = x := ⟨_, rfl⟩
                  rw [hxx] at c1 hqin
                  have HIN := Lib.hid hqin
                  clear hxx s1 hqin h1 hql
                  obtain ⟨xa, xn, xc, xl⟩ := x
                  dsimp only at c1
                  obtain ⟨G, hG⟩ : ∃ G, wr.heap.size = G := ⟨_, rfl⟩
                  have O5 := Lib.hid (O4.out.v.alloc (.cells #[.slice xa xn xc] 22))
                  have E9 : Hid (OwnV (wr.alloc (.cells #[.slice xa xn xc] 22)) G 22 (some ⟨G, 0, none⟩) 1 1 [.slice xa xn xc]) := by rw [← hG]; exact OwnV.lit wr 22 #[.slice xa xn xc] wr.heap.size (Nat.le_refl _) (by show 1 ≤ maxLen; unfold maxLen; omega)
                  have z9 : G ≤ (wr.alloc (.cells #[.slice xa xn xc] 22)).heap.size := by rw [← hG]; simp
                  have hGw : Hid (w.heap.size ≤ G) := by rw [Hid, ← hG]; exact Q4.out.size
                  have hMb : M.length ≤ 200 := by omega
                  go_wp2_with (at_builtin; go_must (refine wpList_appV _ rfl _ _ 41 rfl G 22 i0 (.slice none 0 0) 24 Try.underlying41 hi hz0 rfl hz1 hz2 (some ⟨G, 0, none⟩) 1 1 [.slice xa xn xc] rfl E9.out aM M.length cM (cellsS M) rfl O5.out.vw (cellsS_one M) (by unfold maxLen; omega) (by omega) z9 ?_))
                  intro a10 c10 w10 ho10 hg10
                  have B10 := Lib.hid (appV_below E9.out hg10 (Nat.le_refl G) z9)
                  have hX10 : Hid (Below wr.heap.size wr w10) := by rw [Hid, hG]; exact ((Below.refl G wr).alloc (by rw [hG]; exact Nat.le_refl _) _).trans B10.out
                  have Q10 := Lib.hid (bthen Q4.out hX10.out)
                  have X10 := Lib.hid (X4.out.below hX10.out)
                  have U10 := Lib.hid (U4.out.below hX10.out)
                  have L10 := Lib.hid (L4.out.below hX10.out)
                  have hlen : (⟨xa, xn, xc, xl⟩ :: M : List Sl).length = 1 + M.length := by rw [List.length_cons, Nat.add_comm]
                  have O10 : Hid (OwnS w10 w.heap.size 22 a10 (⟨xa, xn, xc, xl⟩ :: M : List Sl).length c10 (⟨xa, xn, xc, xl⟩ :: M)) := by
                    rw [hlen]
                    exact (OwnV.more ho10 hGw.out).s
                  have HLEN := Lib.hid hlen
                  clear ho10 hg10 B10 hX10 z9 E9 O5 hG X4 U4 L4 Q4 O4 hlen c1 cu
                  go_wp2_with fail
                  go_roundw
                  case rel =>
                    refine ⟨i + 1, a10, c10, ⟨xa, xn, xc, xl⟩ :: M, by omega, by go_num, by rw [HLEN.out], O10.out, by rw [HLEN.out]; omega, by rw [HLEN.out]; omega, fun s hs => ?_, fun z => ?_, X10.out, U10.out, L10.out, Q10.out⟩
                    · rcases List.mem_cons.1 hs with rfl | h
                      · exact HIN.out
                      · exact I4.out s h
                    · show z ∈ xl :: lsOf M ↔ _
                      rw [List.mem_cons, E4.out z]
                      constructor
                      · rintro (rfl | h)
                        · exact List.mem_map.2 ⟨_, HIN.out, rfl⟩
                        · exact h
                      · exact .inr
                  case measure => simp [intOf]; omega
                · have hj0' : j = 0 := by omega
                  subst hj0'
                  have MR : Hid (Rw wr aM M.length cM M) := O4.out.rw_ fun s hs => by
                    obtain ⟨t, ht, rfl⟩ := List.getElem_of_mem (I4.out s hs)
                    exact X4.out.2 t ht
                  have H9 := Lib.hid (sorted_any MR.out (by omega) (fun s hs => hls s (I4.out s hs)))
                  go_wp2_with fail
                  with_reducible refine H9.out.mono ?_
                  rintro e w11 ⟨a11, c11, R11, rfl, ho, hr, q⟩
                  have L11 := Lib.hid (L4.out.below q)
                  have K11 := Lib.hid ho.rw_
                  have Q11 := Lib.hid (bthen Q4.out q)
                  have hrr : lsOf R11 = lsOf R3 := by rw [hr, LS.out]; exact srt_same E4.out
                  have hrl : R11.length = R3.length := by
                    have h1 := congrArg List.length hrr
                    rwa [lsOf_len, lsOf_len] at h1
                  rw [hrl] at K11 ⊢
                  have H12 := Lib.hid (slices_self K11.out L11.out hrr)
                  clear q ho hr hrr hrl H9
                  go_wp2_with fail
                  with_reducible refine H12.out.mono ?_
                  rintro e w12 ⟨rfl, k, rfl⟩
                  go_wp2_with fail
                  go_ret
                  exact ⟨rfl, below_drewN Q11.out k⟩
              · obtain rfl : i = m := by omega
                have hlt4 : ¬ (i : Int) < i := by omega
                have MR : Hid (Rw wr aM M.length cM M) := O4.out.rw_ fun s hs => by
                  obtain ⟨t, ht, rfl⟩ := List.getElem_of_mem (I4.out s hs)
                  exact X4.out.2 t ht
                have H9 := Lib.hid (sorted_any MR.out (by omega) (fun s hs => hls s (I4.out s hs)))
                go_wp2_with fail
                with_reducible refine H9.out.mono ?_
                rintro e w11 ⟨a11, c11, R11, rfl, ho, hr, q⟩
                have L11 := Lib.hid (L4.out.below q)
                have K11 := Lib.hid ho.rw_
                have Q11 := Lib.hid (bthen Q4.out q)
                have hrr : lsOf R11 = lsOf R3 := by rw [hr, LS.out]; exact srt_same E4.out
                have hrl : R11.length = R3.length := by
                  have h1 := congrArg List.length hrr
                  rwa [lsOf_len, lsOf_len] at h1
                rw [hrl] at K11 ⊢
                have H12 := Lib.hid (slices_self K11.out L11.out hrr)
                clear q ho hr hrr hrl H9
                go_wp2_with fail
                with_reducible refine H12.out.mono ?_
                rintro e w12 ⟨rfl, k, rfl⟩
                go_wp2_with fail
                go_ret
                exact ⟨rfl, below_drewN Q11.out k⟩
          · have g60 := of_decide_eq_true h60
            go_wp2_with fail
            with_reducible refine HA1.out.mono ?_
            rintro e w2 ⟨rfl, q⟩
            have Q2 := Lib.hid q
            have HA2 := Lib.hid (awakeEl_any w2)
            clear q
            go_wp2_with fail
            with_reducible refine HA2.out.mono ?_
            rintro e w3 ⟨rfl, q⟩
            have Q3 := Lib.hid (bthen Q2.out q)
            clear q
            go_wp2_with fail
            go_ret
            exact ⟨rfl, Q3.out⟩
        · have g20 := of_decide_eq_true h20
          go_wp2_with fail
          with_reducible refine HA1.out.mono ?_
          rintro e w2 ⟨rfl, q⟩
          have Q2 := Lib.hid q
          have HA2 := Lib.hid (awakeEl_any w2)
          clear q
          go_wp2_with fail
          with_reducible refine HA2.out.mono ?_
          rintro e w3 ⟨rfl, q⟩
          have Q3 := Lib.hid (bthen Q2.out q)
          clear q
          go_wp2_with fail
          go_ret
          exact ⟨rfl, Q3.out⟩
      · have g50 := of_decide_eq_true h50
        go_wp2_with fail
        with_reducible refine HA1.out.mono ?_
        rintro e w2 ⟨rfl, q⟩
        have Q2 := Lib.hid q
        have HA2 := Lib.hid (awakeEl_any w2)
        clear q
        go_wp2_with fail
        with_reducible refine HA2.out.mono ?_
        rintro e w3 ⟨rfl, q⟩
        have Q3 := Lib.hid (bthen Q2.out q)
        clear q
        go_wp2_with fail
        go_ret
        exact ⟨rfl, Q3.out⟩
end Go.Proofs.Ytkkomaohcijhnaa.elementSorts
namespace Go.Proofs.Ytkkomaohcijhnaa.elementSorts
open Go.ChangeShapes Go.WideShapes Go.ChangeAt Go.RowKit
open Go.ChangeMaps (open_string shut_string)
set_option linter.unusedVariables false
set_option maxRecDepth 100000 in
theorem lifted (os : Os) (started : os.Started) (H : Type) (enc : TypeId × Value → H) :
    ReturnsInHanded {} Try.checked os 7 .any (Rows.elementSortsSpec.pre6 enc Try.prog Try.f7 Rows.elementSortsRow.domain false) (Rows.elementSortsSpec.post enc Try.prog Try.f7 false true false false) := by
  refine returnsInHanded_of_change_sized (C := Try.checked) ownKnob_none started (by kernel_rfl) Try.func7
    (ChangeSpec.witness6 (enc := enc) (C := Try.checked) false ⟨#[], #[.slice none 0 0, .slice none 0 0], []⟩ 8 (by kernel_rfl) (by kernel_rfl) (by kernel_rfl) (by kernel_rfl)) ?_
  intro W base args ds gs before hval0 hW hcnd hsz0 _
  have hsz : (DataW.weightsEach Try.prog (Try.f7.params.toList ++ Rows.elementSortsSpec.plain.varTypes Try.prog) (ds ++ gs)).all (· ≤ reachBytes) = true := hsz0
  clear hsz0
  have hval : ∀ (j : Nat) t v, Try.f7.params[j]? = some t → args[j]? = some v → Value.okWide Try.prog W .any base t v := hval0
  have hW' := hW
  obtain ⟨p, q, hA0, hV, rfl, hfz, hnd⟩ := hW
  have hA : DataW.TrodAll enc Try.prog W 0 (fun _ => true) true Try.f7.params.toList args.toList ds p := hA0
  rw [Try.params7] at hA hval
  obtain ⟨v0, vs0, d0, ds0, p0, q0, hargs, rfl, rfl, h0, r0⟩ := trodAll_cons hA
  obtain ⟨v1, vs1, d1, ds1, p1, q1, rfl, rfl, rfl, h1, r1⟩ := trodAll_cons r0
  obtain ⟨rfl, rfl, rfl⟩ := trodAll_nil r1
  obtain rfl : args = #[v0, v1] := by cases args; simp_all
  obtain ⟨rfl, rfl⟩ := trodVars_none hV
  have k0 := h0
  have lt0 : ∀ x ∈ p0, x.block < W.heap.size := by obtain ⟨m, hm⟩ := k0; exact DataW.trod_lt m _ _ _ hm
  obtain ⟨a0, n0, c0, rfl⟩ := okWide_slice Try.underlying41 (hval 0 41 v0 rfl rfl)
  obtain ⟨l0, b0, m0⟩ := rw_opened h0 (sized_at hsz 0 rfl rfl)
  have k1 := h1
  have lt1 : ∀ x ∈ p1, x.block < W.heap.size := by obtain ⟨m, hm⟩ := k1; exact DataW.trod_lt m _ _ _ hm
  obtain ⟨a1, n1, c1, rfl⟩ := okWide_slice Try.underlying22 (hval 1 22 v1 rfl rfl)
  obtain ⟨l1, b1⟩ := bs_opened h1
  clear hA0 hval0
  refine (walk b0 m0 b1).mono fun e W' ⟨he, bel⟩ => ?_
  subst he
  exact ⟨_, rfl, _, _, _, [], _, [], hW', trodAll_mk1 (shut_bool Try.underlying4 _), (trodAll_cons_mk (Below.trod laidOut_ok (by kernel_rfl) (of_decide_eq_true (by kernel_rfl)) k0 bel lt0) (trodAll_cons_mk (Below.trod laidOut_ok (by kernel_rfl) (of_decide_eq_true (by kernel_rfl)) k1 bel lt1) trodAll_mk0)), rfl, bel.frame _, fun h => by cases h⟩
theorem over : Rows.elementSortsRow.holds Try.pinned (OpenSpec.ofChange Rows.elementSortsSpec) :=
  OpenClaim.holds_of_wide 7 Try.f7 rfl rfl rfl rfl rfl rfl rfl ⟨rfl, rfl, rfl, rfl, rfl⟩ rfl rfl rfl rfl rfl (by kernel_rfl) Try.func7 (by kernel_rfl)
    (of_decide_eq_true (by kernel_rfl)) (by unfold Func.isWrapper; first | (rw [if_pos (by decide +kernel)]; kernel_rfl) | (rw [if_neg (by decide +kernel)]; exact ⟨rfl, rfl⟩))
    (fun os started H enc _ => lifted os started H enc)
theorem proved : Rows.ElementSortsSaid := over
#print axioms proved
end Go.Proofs.Ytkkomaohcijhnaa.elementSorts
