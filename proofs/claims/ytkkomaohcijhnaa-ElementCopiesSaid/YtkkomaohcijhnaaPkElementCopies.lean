/-
  The law ElementCopies: for every input it returns true, and each argument reads afterwards as it read before. No further condition.
-/
import Derived.Test.YtkkomaohcijhnaaPk03
import Derived.Test.YtkkomaohcijhnaaPk04
import Derived.Test.YtkkomaohcijhnaaPk05
import Derived.Test.YtkkomaohcijhnaaPk06
namespace Go.Proofs.Ytkkomaohcijhnaa.elementCopies
open Go.RowKit
theorem mem_tot {ss : List Sl} {s : Sl} (h : s ∈ ss) : s.n ≤ tot ss := by
  unfold tot
  induction ss with
  | nil => exact absurd h (by simp)
  | cons t r ih =>
    rw [List.map_cons, List.sum_cons]
    rcases List.mem_cons.1 h with rfl | h
    · omega
    · have := ih h; omega
set_option maxRecDepth 100000 in
set_option maxHeartbeats 32000000 in
theorem walk {w : World} {a : Option Addr} {n c : Nat} {ss : List Sl} (hx : Rw w a n c ss) (hM : ∀ s ∈ ss, s.n ≤ 140737488351232) :
    Calls Try.prog 9 #[.slice a n c] w fun e w' => e = .returned (.bool true) ∧ Below w.heap.size w w' := by
  obtain ⟨i0, hi, hz0, hz1, hz2⟩ := info_parts info_u8
  obtain ⟨j0, ji, jz0, jz1, jz2⟩ := info_partsE info_bs
  have HL := Lib.hid hx.len
  have HLS := Lib.hid hx.lens
  have HB := Lib.hid (tot_bd hM)
  have HBE := Lib.hid hM
  have hcm : n ≤ 9223372036854775807 := by have := hx.1.2.1; have := hx.1.2.2.1; unfold maxLen at this; omega
  have X1 := Lib.hid hx
  clear hx hM
  have HA1 := Lib.hid (awakeEl_any w)
  go_enter Try.func9, Try.ntmps9
  go_wp2_with fail
  go_loop [3, 4] (fun s i => ∃ j : Nat, j ≤ n ∧ j ≤ 60 ∧ i = .int .i64 j ∧ s = .int .i64 (tot (ss.take j) : Nat)) (fun _ i => n - (intOf i).toNat)
  case atStart => exact ⟨0, Nat.zero_le _, Nat.zero_le _, rfl, rfl⟩
  case round =>
    obtain ⟨j, hj, hj6, rfl, rfl⟩ := hrel
    have hj0 : (0 : Int) ≤ j := by omega
    have hjw : IntKind.i64.wrap ((j : Int) + 1) = (j : Int) + 1 := by rw [IntKind.wrap_i64]; omega
    by_cases hlt : j < n
    · have hlt2 : (j : Int) < n := by omega
      by_cases h60 : j < 60
      · have h602 : (j : Int) < 60 := by omega
        obtain ⟨b1, o1, hjl, rfl, h1, c1, s1⟩ := X1.out.at_ hlt
        have TT := Lib.hid (tot_take hjl)
        have hb1 := HB.out j
        have hb2 := HBE.out _ (List.getElem_mem hjl)
        obtain ⟨N, hN⟩ : ∃ N, tot (ss.take j) = N := ⟨_, rfl⟩
        rw [hN] at TT hb1 ⊢
        obtain ⟨x, hxx⟩ : ∃ x, ss[j] = x := ⟨_, rfl⟩
        rw [hxx] at TT c1 hb2
        clear hN hxx s1
        obtain ⟨xa, xn, xc, xl⟩ := x
        dsimp only at TT c1 hb2
        have hsum : N + xn ≤ 9223372036854775807 := by
          have : j * 140737488351232 ≤ 59 * 140737488351232 := Nat.mul_le_mul_right _ (by omega)
          omega
        have v1 : IntKind.i64.wrap ((N : Int) + xn) = (N : Int) + xn := by rw [IntKind.wrap_i64]; omega
        clear hb1 hb2 hsum
        go_wp2_with fail
        go_round
        case rel => exact ⟨j + 1, by omega, by omega, by go_num, by rw [TT.out]; go_num⟩
        case measure => simp [intOf]; omega
      · have h602 : ¬ (j : Int) < 60 := by omega
        have h50 : (50 : Int) < n := by omega
        generalize tot (ss.take j) = N at *
        go_wp2_with fail
        with_reducible refine HA1.out.mono ?_
        rintro e w2 ⟨rfl, q⟩
        have Q2 := Lib.hid q
        have HA2 := Lib.hid (awakeEl_any w2)
        clear q
        go_wp2_with fail
        with_reducible refine HA2.out.mono ?_
        rintro e w3 ⟨rfl, q⟩
        have Q3 := Lib.hid (bthen Q2.out q)
        clear q
        go_wp2_with fail
        go_ret
        exact ⟨rfl, Q3.out⟩
    · obtain rfl : j = n := by omega
      have hlt2 : ¬ (j : Int) < j := by omega
      have e : ss.take j = ss := List.take_of_length_le (by have := HL.out; omega)
      rw [e]
      have HE := Lib.hid e
      clear e HB HBE
      obtain ⟨N, hN⟩ : ∃ N, tot ss = N := ⟨_, rfl⟩
      have HN := Lib.hid hN
      rw [hN]
      clear hN
      rcases h50 : decide ((50 : Int) < j) with _ | _
      · have g50 := of_decide_eq_false h50
        rcases h20 : decide ((2000 : Int) < N) with _ | _
        · have g20 := of_decide_eq_false h20
          have hjz : j ≤ 1000000 := by omega
          have hls : ∀ s ∈ ss, s.n ≤ 2000 := fun s hs => by have := mem_tot hs; have := HN.out; omega
          obtain ⟨W0, hW0⟩ : ∃ W0, w.heap.size = W0 := ⟨_, rfl⟩
          rw [hW0] at HA1
          have HXB := Lib.hid (fun v (h : Below W0 w v) => X1.out.below (w' := v) (by rw [hW0]; exact h))
          have HW0 := Lib.hid hW0
          go_wp2_with fail
          with_reducible refine HA1.out.mono ?_
          rintro e w2 ⟨rfl, q⟩
          have Q2 := Lib.hid q
          have z2 : W0 ≤ w2.heap.size := by rw [← hW0]; exact q.size
          clear q HA1 hW0
          go_wp2_with fail
          go_loopw [5, 6] (fun ov iv wr => ∃ i : Nat, ∃ aO cO, ∃ M : List Sl, i ≤ j ∧ iv = .int .i64 i ∧ ov = .slice aO i cO ∧ OwnP wr W0 aO i cO M ∧ lsOf M = lsOf (ss.take i) ∧ Below W0 w wr ∧ W0 ≤ wr.heap.size) (fun _ iv _ => j - (intOf iv).toNat)
          case atStart => exact ⟨0, none, 0, [], Nat.zero_le _, rfl, rfl, OwnP.nil_ _ _, rfl, Q2.out, z2⟩
          case round =>
            obtain ⟨i, aO, cO, M, hij, rfl, rfl, ho, hls2, hq, hzz⟩ := hrel
            have O4 := Lib.hid ho
            have E4 := Lib.hid hls2
            have Q4 := Lib.hid hq
            clear ho hls2 hq Q2 z2
            have hi0 : (0 : Int) ≤ i := by omega
            have hiw : IntKind.i64.wrap ((i : Int) + 1) = (i : Int) + 1 := by rw [IntKind.wrap_i64]; omega
            by_cases hlt3 : i < j
            · have hlt4 : (i : Int) < j := by omega
              have X4 := Lib.hid (HXB.out _ Q4.out)
              obtain ⟨b1, o1, hil, rfl, h1, c1, s1⟩ := X4.out.at_ hlt3
              have TK := Lib.hid (List.take_succ_eq_append_getElem hil)
              have hxn := hls _ (List.getElem_mem hil)
              obtain ⟨x, hxx⟩ : ∃ x, ss[i] = x := ⟨_, rfl⟩
              rw [hxx] at c1 hxn TK
              have s2 : Bs wr x.a x.n x.c x.l := by rw [← hxx]; exact s1
              clear hxx s1 h1
              obtain ⟨xa, xn, xc, xl⟩ := x
              dsimp only at c1 hxn TK s2
              have S4 := Lib.hid s2
              clear s2
              obtain ⟨G, hG⟩ : ∃ G, wr.heap.size = G := ⟨_, rfl⟩
              have X5 := Lib.hid (S4.out.alloc (.cells #[] 5))
              have c5' := World.cell?_alloc_lt wr (.cells #[] 5) ⟨b1, o1 + i, none⟩ (by obtain ⟨_, _, _, e2, hb, _⟩ := X4.out.at_ hlt3; injection e2 with e2; injection e2 with e2; subst e2; exact hb)
              rw [c1] at c5'
              have WE : Hid (Own (wr.alloc (.cells #[] 5)) G 5 (some ⟨G, 0, none⟩) 0 0 []) := by
                rw [← hG]
                exact World.ownsRow_made wr #[] 0 (Nat.le_refl _) (Nat.zero_le _) rfl
              have O5 := Lib.hid (O4.out.below (bal (Below.refl _ wr) (.cells #[] 5)))
              have Q5 := Lib.hid (Q4.out.alloc hzz (.cells #[] 5))
              have z5 : G ≤ (wr.alloc (.cells #[] 5)).heap.size := by rw [← hG]; simp
              have hM : Hid (∀ s ∈ M, ∀ y, s.a = some y → y.block < G) := fun s hs y hy => by rw [← hG]; exact ((O4.out.2.1.1 s hs).base y hy).2
              have hA : Hid (∀ y, aO = some y → y.block < G) := fun y hy => by rw [← hG]; exact (O4.out.1.base y hy).2
              have hWG : W0 ≤ G := by omega
              go_wp2_with (at_builtin; go_must (refine wpList_app _ rfl _ _ 22 rfl G 5 i0 Try.underlying22 hi hz0 hz1 hz2 (some ⟨G, 0, none⟩) 0 0 [] rfl WE.out xa xn xc xl rfl X5.out (by omega) z5 ?_))
              intro a6 c6 w6 ho6 hg6
              have D6 := Lib.hid (app_below WE.out hg6 (Nat.le_refl G) z5)
              have hX6 : Hid (Below wr.heap.size wr w6) := by rw [Hid, hG]; exact ((Below.refl G wr).alloc (by rw [hG]; exact Nat.le_refl _) _).trans D6.out
              have O6 := Lib.hid (O4.out.below hX6.out)
              have Q6 := Lib.hid (Q4.out.trans (hX6.out.mono hzz))
              have N6 := Lib.hid ho6
              have z6 : G ≤ w6.heap.size := by have := D6.out.size; omega
              clear ho6 hg6 D6 hX6 O5 Q5 z5 X5 WE c1 c5' S4 X4 O4 Q4
              obtain ⟨G7, hG7⟩ : ∃ G7, w6.heap.size = G7 := ⟨_, rfl⟩
              have O7 := Lib.hid (O6.out.below (bal (Below.refl _ w6) (.cells #[.slice a6 xn c6] 22)))
              have N7 := Lib.hid (N6.out.below (bal (Below.refl _ w6) (.cells #[.slice a6 xn c6] 22)))
              have Q7 := Lib.hid (Q6.out.alloc (by omega) (.cells #[.slice a6 xn c6] 22))
              have NB := Lib.hid (Blk.new w6 22 #[.slice a6 xn c6])
              have z7 : W0 ≤ (w6.alloc (.cells #[.slice a6 xn c6] 22)).heap.size := by simp; omega
              rw [hG7] at NB
              go_wp2_with (at_builtin; go_must (refine wpList_append_lies _ rfl _ _ 41 rfl W0 22 j0 (.slice none 0 0) 1 24 Try.underlying41 ji jz0 jz1 jz2 rfl (by decide) (.slice aO i cO) i (cellsS M) rfl O7.out.1.2 ⟨_, 0, none⟩ 1 1 [.slice a6 xn c6] rfl rfl (World.news_of_block NB.out) (by simp [Value.oneCell']) (by decide) (by unfold maxLen; omega) (by omega) z7 _ rfl ?_))
              intro g cap w8 hown8 hg8 hat hlt8
              have P8 := Lib.hid (O7.out.push (x := ⟨a6, xn, c6, xl⟩) N7.out hWG hM.out hA.out hown8 hg8 (by rcases hat with e | e; exact .inl e; exact .inr (by rw [e, ← hG7]; simp)))
              have B8 := Lib.hid (appV_below O7.out.1.v hg8 (Nat.le_refl W0) z7)
              have Q8 := Lib.hid (Q7.out.trans B8.out)
              have z8 : W0 ≤ w8.heap.size := by have := B8.out.size; omega
              clear hown8 hg8 hat hlt8 O7 N7 Q7 NB z7 B8 O6 Q6 N6 hG7 hG
              go_wp2_with fail
              go_roundw
              case rel => exact ⟨i + 1, some ⟨g, 0, none⟩, cap, M ++ [⟨a6, xn, c6, xl⟩], by omega, by go_num, rfl, P8.out, by rw [TK.out, lsOf_app, lsOf_app, E4.out]; rfl, Q8.out, z8⟩
              case measure => simp [intOf]; omega
            · obtain rfl : i = j := by omega
              have hlt4 : ¬ (i : Int) < i := by omega
              rw [HE.out] at E4
              have HMl : Hid (M.length = i) := O4.out.1.1
              obtain ⟨Z2, hZ2⟩ : ∃ Z2, wr.heap.size = Z2 := ⟨_, rfl⟩
              have HU : Hid (∀ s ∈ M, ∀ x, s.a = some x → x.block < Z2) := fun s hs x hx => by rw [← hZ2]; exact ((O4.out.2.1.1 s hs).base x hx).2
              have HWZ : Hid (W0 ≤ Z2) := by rw [Hid, ← hZ2]; exact hzz
              have hMn : ∀ s ∈ M, s.n ≤ 2000 := fun s hs => by
                have e1 := (O4.out.2.1.1 s hs).bs.len
                have e2 : s.l ∈ lsOf ss := by rw [← E4.out]; exact List.mem_map.2 ⟨s, hs, rfl⟩
                obtain ⟨t, ht, e3⟩ := List.mem_map.1 e2
                have e4 := HLS.out t ht
                have e5 := hls t ht
                rw [e3] at e4
                omega
              have hcat : cat M = cat ss := by rw [cat_lsOf, cat_lsOf, E4.out]
              have htM : tot M ≤ 900000 := by
                have e1 : (cat M).length = tot M := cat_tot fun s hs => (O4.out.2.1.1 s hs).bs.len
                have e2 := cat_tot HLS.out
                have := HN.out
                rw [hcat] at e1
                omega
              have htS : tot ss ≤ 900000 := by have := HN.out; omega
              have H5 := Lib.hid (sorted_any O4.out.rw_ hjz (fun s hs => by have := hMn s hs; omega))
              rw [hZ2] at H5
              go_wp2_with fail
              with_reducible refine H5.out.mono ?_
              rintro e w3 ⟨a3, c3, R, rfl, ho, hr, q⟩
              have L3 := Lib.hid ho
              have LS := Lib.hid hr
              have O5 := Lib.hid (O4.out.below (w' := w3) (by rw [hZ2]; exact q))
              have Q5 := Lib.hid (Q4.out.trans (q.mono HWZ.out))
              clear ho hr H5 O4 Q4
              obtain ⟨Z3, hZ3⟩ : ∃ Z3, w3.heap.size = Z3 := ⟨_, rfl⟩
              have HZ23 : Hid (Z2 ≤ Z3) := by rw [Hid, ← hZ2, ← hZ3]; exact q.size
              have HU2 : Hid (∀ s ∈ R, ∀ x, s.a = some x → x.block < Z3) := fun s hs x hx => by rw [← hZ3]; exact ((L3.out.2.1.1 s hs).base x hx).2
              have H6 := Lib.hid (sequence_any O5.out.rw_ (by omega) htM)
              rw [hcat, hZ3] at H6
              clear q hZ2
              go_wp2_with fail
              with_reducible refine H6.out.mono ?_
              rintro e w4 ⟨a4, c4, rfl, ho, q⟩
              have S6 := Lib.hid ho
              have qq : Below w3.heap.size w3 w4 := by rw [hZ3]; exact q
              have L6 := Lib.hid (L3.out.below qq)
              have O6 := Lib.hid (O5.out.below qq)
              have Q6 := Lib.hid (Q5.out.trans (q.mono (by have := HWZ.out; have := HZ23.out; omega)))
              have hz34 := q.size
              clear ho q qq H6 L3 O5 Q5
              have H7 := Lib.hid (ref_wrap_own 0 16 true (HXB.out _ Q6.out) (by omega) htS)
              go_wp2_with fail
              with_reducible refine H7.out.mono ?_
              rintro e w5 ⟨a5, c5, rfl, ho, q⟩
              have T7 := Lib.hid (Own.more ho (by omega : Z3 ≤ w4.heap.size))
              have S7 := Lib.hid (S6.out.below q)
              have L7 := Lib.hid (L6.out.below q)
              have O7 := Lib.hid (O6.out.below q)
              have Q7 := Lib.hid (Q6.out.trans (q.mono (by have := HWZ.out; have := HZ23.out; omega)))
              clear ho q H7 S6 L6 O6 Q6 hz34 hZ3
              have H8 := Lib.hid (slices_self O7.out.rw_ (HXB.out _ Q7.out) E4.out)
              generalize encR 0 16 true (cat ss) = ER at *
              obtain ⟨EL, EC⟩ := ER
              dsimp only at S7 T7 ⊢
              have hbb : (EC != EC) = false := by simp
              go_wp2_with fail
              with_reducible refine H8.out.mono ?_
              rintro e ws ⟨rfl, k, rfl⟩
              have S8 : Hid (Own (w5.drewN k) Z3 5 a4 EL.length c4 EL) := S7.out
              have T8 : Hid (Own (w5.drewN k) Z3 5 a5 EL.length c5 EL) := T7.out
              have L8 : Hid (OwnP (w5.drewN k) Z2 a3 R.length c3 R) := L7.out
              have P0 : Hid (OwnP (w5.drewN k) W0 aO i cO M) := O7.out
              have Q8 := Lib.hid (below_drewN Q7.out k)
              generalize w5.drewN k = w8 at *
              clear H8 S7 T7 L7 O7 Q7 hcat htM htS hMn
              obtain ⟨nO, hnO⟩ : ∃ nO, i = nO := ⟨_, rfl⟩
              obtain ⟨Rn, hRn⟩ : ∃ Rn, R.length = Rn := ⟨_, rfl⟩
              rw [hRn] at L8 ⊢
              clear hbb hlt3 hlt4 hi0 hiw hnO nO hij
              go_wp2_with fail
              go_loopw [12] (fun iv wr => ∃ p : Nat, p ≤ i ∧ iv = .int .i64 p ∧ ∃ M' : List Sl, OwnP wr W0 aO i cO M' ∧ cellsS M' = cellsS M ∧ Mid W0 Z2 w8 wr) (fun iv _ => i - (intOf iv).toNat)
              case atStart => exact ⟨0, Nat.zero_le _, rfl, M, P0.out, rfl, Mid.refl _ _ _⟩
              case round =>
                obtain ⟨p, hp1, rfl, M1, ho, hc, hm⟩ := hrel
                have P1 := Lib.hid ho
                have C1 := Lib.hid hc
                have M1d := Lib.hid hm
                clear ho hc hm
                have hi0 : (0 : Int) ≤ p := by omega
                by_cases hlt3 : p < i
                · have hlt4 : (p : Int) < i := by omega
                  have hiw : IntKind.i64.wrap ((p : Int) + 1) = (p : Int) + 1 := by have hnb := P1.out.1.v.cap; unfold maxLen at hnb; rw [IntKind.wrap_i64]; omega
                  have hil : p < M.length := by have := P0.out.1.1; omega
                  have HPT := Lib.hid (fun v (M' : List Sl) (h : OwnP v W0 aO i cO M') (hc : cellsS M' = cellsS M) => h.part hc hil)
                  have HPO := Lib.hid (fun v (M' : List Sl) (k : Nat) (h : OwnP v W0 aO i cO M') (hc : cellsS M' = cellsS M) (hk : k < M[p].n) => h.octet hc hil hk)
                  have HUI := Lib.hid (HU.out _ (List.getElem_mem hil))
                  obtain ⟨x, hxx⟩ : ∃ x, M[p] = x := ⟨_, rfl⟩
                  simp only [hxx] at HPT HPO HUI
                  clear hxx
                  obtain ⟨xa, xn, xc, xl⟩ := x
                  dsimp only at HPT HPO HUI
                  obtain ⟨_, _, _, _, gr, hgr, _, _, _⟩ := HPT.out _ _ P1.out C1.out
                  go_wp2_with fail
                  go_loopw [13] (fun kv wr => ∃ k : Nat, k ≤ xn ∧ kv = .int .i64 k ∧ ∃ M' : List Sl, OwnP wr W0 aO i cO M' ∧ cellsS M' = cellsS M ∧ Mid W0 Z2 w8 wr) (fun kv _ => xn - (intOf kv).toNat)
                  case atStart => exact ⟨0, Nat.zero_le _, rfl, M1, P1.out, C1.out, M1d.out⟩
                  case round =>
                    obtain ⟨k, hk1, rfl, M2, ho, hc, hm⟩ := hrel
                    have P2 := Lib.hid ho
                    have C2 := Lib.hid hc
                    have M2d := Lib.hid hm
                    clear ho hc hm P1 C1 M1d
                    obtain ⟨_, _, _, _, gr2, hgr2, _, _, hrow⟩ := HPT.out _ _ P2.out C2.out
                    obtain rfl : gr2 = gr := by rw [hgr] at hgr2; injection hgr2 with e; injection e with e; exact e.symm
                    subst hgr
                    have HGR := Lib.hid hgr2
                    clear hgr2
                    have hk0 : (0 : Int) ≤ k := by omega
                    by_cases hlt5 : k < xn
                    · have hlt6 : (k : Int) < xn := by omega
                      obtain ⟨g, y, rfl, hBg, hnc, hcell, hfr, hst⟩ := HPO.out _ _ k P2.out C2.out hlt5
                      have hgh : g < Z2 := HUI.out _ rfl
                      obtain ⟨M3, ho3, hc3⟩ := hst (y + 1)
                      have P3 := Lib.hid ho3
                      have C3 := Lib.hid hc3
                      have M3d := Lib.hid (M2d.out.store hBg hgh k (.int .u8 (y + 1).toNat))
                      have hinc := u8_inc y
                      have hyb := byte_bd y
                      have hkw : IntKind.i64.wrap ((k : Int) + 1) = (k : Int) + 1 := by rw [IntKind.wrap_i64]; omega
                      clear hst ho3 hc3
                      go_wp2_with fail
                      go_roundw
                      case rel => exact ⟨k + 1, by omega, by go_num, M3, P3.out, C3.out, M3d.out⟩
                      case measure => simp [intOf]; omega
                    · have hlt6 : ¬ (k : Int) < xn := by omega
                      go_wp2_with fail
                      go_roundw
                      case rel => exact ⟨p + 1, by omega, by go_num, M2, P2.out, C2.out, M2d.out⟩
                      case measure => simp [intOf]; omega
                · have hend : p = i := by omega
                  have hlt4 : ¬ (p : Int) < i := by omega
                  have Q9 := Lib.hid (Q8.out.trans M1d.out.below)
                  have L9 := Lib.hid (L8.out.mid M1d.out (Nat.le_refl _))
                  have S9 := Lib.hid (S8.out.mid M1d.out HZ23.out)
                  have T9 := Lib.hid (T8.out.mid M1d.out HZ23.out)
                  clear P1 C1 M1d Q8 L8 S8 T8 P0 hend
                  have H9 := Lib.hid (ref_sorted_any (HXB.out _ Q9.out) hjz)
                  go_wp2_with fail
                  with_reducible refine H9.out.mono ?_
                  rintro e v1 ⟨a9, c9, R9, rfl, ho, hin, hr, q⟩
                  have X9 := Lib.hid (HXB.out _ (Q9.out.trans (q.mono (by have := Q9.out.size; have := HW0.out; omega))))
                  have K9 : Hid (Rw v1 a9 R9.length c9 R9) := ho.rw_ fun s hs => by
                    obtain ⟨t, ht, rfl⟩ := List.getElem_of_mem (hin s hs)
                    exact X9.out.2 t ht
                  have L10 := Lib.hid (L9.out.below q)
                  have S10 := Lib.hid (S9.out.below q)
                  have T10 := Lib.hid (T9.out.below q)
                  have Q10 := Lib.hid (Q9.out.trans (q.mono (by have := Q9.out.size; have := HW0.out; omega)))
                  have hrr : lsOf R = lsOf R9 := by rw [LS.out, hr, E4.out]
                  have hrl : R9.length = Rn := by
                    have h1 := congrArg List.length hrr
                    rw [lsOf_len, lsOf_len] at h1
                    omega
                  rw [hrl] at K9 ⊢
                  have H10 := Lib.hid (slices_self L10.out.rw_ K9.out hrr)
                  clear ho hin hr q L9 S9 T9 Q9 H9 hrr hrl X9
                  go_wp2_with fail
                  with_reducible refine H10.out.mono ?_
                  rintro e v2 ⟨rfl, k, rfl⟩
                  have S11 : Hid (Own (v1.drewN k) Z3 5 a4 EL.length c4 EL) := S10.out
                  have T11 : Hid (Own (v1.drewN k) Z3 5 a5 EL.length c5 EL) := T10.out
                  have L11 : Hid (OwnP (v1.drewN k) Z2 a3 Rn c3 R) := L10.out
                  have Q11 := Lib.hid (below_drewN Q10.out k)
                  generalize v1.drewN k = v2 at *
                  have H11 := Lib.hid (bytes_any S11.out.bs T11.out.bs)
                  rw [eqB_self] at H11
                  clear L10 S10 T10 Q10 H10 K9
                  go_wp2_with fail
                  with_reducible refine H11.out.mono ?_
                  rintro e w' ⟨rfl, rfl⟩
                  clear H11 HU
                  have HU := HU2
                  clear HU2
                  go_wp2_with fail
                  
                  go_loopw [14] (fun iv wr => ∃ p : Nat, p ≤ Rn ∧ iv = .int .i64 p ∧ ∃ M' : List Sl, OwnP wr Z2 a3 Rn c3 M' ∧ cellsS M' = cellsS R ∧ Mid Z2 Z3 v2 wr) (fun iv _ => Rn - (intOf iv).toNat)
                  case atStart => exact ⟨0, Nat.zero_le _, rfl, R, L11.out, rfl, Mid.refl _ _ _⟩
                  case round =>
                    obtain ⟨p, hp1, rfl, M1, ho, hc, hm⟩ := hrel
                    have P1 := Lib.hid ho
                    have C1 := Lib.hid hc
                    have M1d := Lib.hid hm
                    clear ho hc hm
                    have hi0 : (0 : Int) ≤ p := by omega
                    by_cases hlt3 : p < Rn
                    · have hlt4 : (p : Int) < Rn := by omega
                      have hiw : IntKind.i64.wrap ((p : Int) + 1) = (p : Int) + 1 := by have hnb := P1.out.1.v.cap; unfold maxLen at hnb; rw [IntKind.wrap_i64]; omega
                      have hil : p < R.length := by have := L11.out.1.1; omega
                      have HPT := Lib.hid (fun v (M' : List Sl) (h : OwnP v Z2 a3 Rn c3 M') (hc : cellsS M' = cellsS R) => h.part hc hil)
                      have HPO := Lib.hid (fun v (M' : List Sl) (k : Nat) (h : OwnP v Z2 a3 Rn c3 M') (hc : cellsS M' = cellsS R) (hk : k < R[p].n) => h.octet hc hil hk)
                      have HUI := Lib.hid (HU.out _ (List.getElem_mem hil))
                      obtain ⟨x, hxx⟩ : ∃ x, R[p] = x := ⟨_, rfl⟩
                      simp only [hxx] at HPT HPO HUI
                      clear hxx
                      obtain ⟨xa, xn, xc, xl⟩ := x
                      dsimp only at HPT HPO HUI
                      obtain ⟨_, _, _, _, gr, hgr, _, _, _⟩ := HPT.out _ _ P1.out C1.out
                      go_wp2_with fail
                      go_loopw [15] (fun kv wr => ∃ k : Nat, k ≤ xn ∧ kv = .int .i64 k ∧ ∃ M' : List Sl, OwnP wr Z2 a3 Rn c3 M' ∧ cellsS M' = cellsS R ∧ Mid Z2 Z3 v2 wr) (fun kv _ => xn - (intOf kv).toNat)
                      case atStart => exact ⟨0, Nat.zero_le _, rfl, M1, P1.out, C1.out, M1d.out⟩
                      case round =>
                        obtain ⟨k, hk1, rfl, M2, ho, hc, hm⟩ := hrel
                        have P2 := Lib.hid ho
                        have C2 := Lib.hid hc
                        have M2d := Lib.hid hm
                        clear ho hc hm P1 C1 M1d
                        obtain ⟨_, _, _, _, gr2, hgr2, _, _, hrow⟩ := HPT.out _ _ P2.out C2.out
                        obtain rfl : gr2 = gr := by rw [hgr] at hgr2; injection hgr2 with e; injection e with e; exact e.symm
                        subst hgr
                        have HGR := Lib.hid hgr2
                        clear hgr2
                        have hk0 : (0 : Int) ≤ k := by omega
                        by_cases hlt5 : k < xn
                        · have hlt6 : (k : Int) < xn := by omega
                          obtain ⟨g, y, rfl, hBg, hnc, hcell, hfr, hst⟩ := HPO.out _ _ k P2.out C2.out hlt5
                          have hgh : g < Z3 := HUI.out _ rfl
                          obtain ⟨M3, ho3, hc3⟩ := hst (y + 1)
                          have P3 := Lib.hid ho3
                          have C3 := Lib.hid hc3
                          have M3d := Lib.hid (M2d.out.store hBg hgh k (.int .u8 (y + 1).toNat))
                          have hinc := u8_inc y
                          have hyb := byte_bd y
                          have hkw : IntKind.i64.wrap ((k : Int) + 1) = (k : Int) + 1 := by rw [IntKind.wrap_i64]; omega
                          clear hst ho3 hc3
                          go_wp2_with fail
                          go_roundw
                          case rel => exact ⟨k + 1, by omega, by go_num, M3, P3.out, C3.out, M3d.out⟩
                          case measure => simp [intOf]; omega
                        · have hlt6 : ¬ (k : Int) < xn := by omega
                          go_wp2_with fail
                          go_roundw
                          case rel => exact ⟨p + 1, by omega, by go_num, M2, P2.out, C2.out, M2d.out⟩
                          case measure => simp [intOf]; omega
                    · have hend : p = Rn := by omega
                      have hlt4 : ¬ (p : Int) < Rn := by omega
                      have Q12 := Lib.hid (Q11.out.trans (M1d.out.below.mono HWZ.out))
                      have S12 := Lib.hid (S11.out.mid M1d.out (Nat.le_refl _))
                      have T12 := Lib.hid (T11.out.mid M1d.out (Nat.le_refl _))
                      have H12 := Lib.hid (bytes_any S12.out.bs T12.out.bs)
                      have H13 := Lib.hid (ref_compare_any S12.out.bs T12.out.bs)
                      rw [eqB_self] at H12
                      rw [lex_self] at H13
                      clear P1 C1 M1d Q11 S11 T11 L11 hend
                      go_wp2_with fail
                      with_reducible refine H12.out.mono ?_
                      rintro e w' ⟨rfl, rfl⟩
                      go_wp2_with fail
                      with_reducible refine H13.out.mono ?_
                      rintro e w' ⟨rfl, k, rfl⟩
                      go_wp2_with fail
                      go_ret
                      exact ⟨by simp, by rw [HW0.out]; exact below_drewN Q12.out k⟩
        · have g20 := of_decide_eq_true h20
          go_wp2_with fail
          with_reducible refine HA1.out.mono ?_
          rintro e w2 ⟨rfl, q⟩
          have Q2 := Lib.hid q
          have HA2 := Lib.hid (awakeEl_any w2)
          clear q
          go_wp2_with fail
          with_reducible refine HA2.out.mono ?_
          rintro e w3 ⟨rfl, q⟩
          have Q3 := Lib.hid (bthen Q2.out q)
          clear q
          go_wp2_with fail
          go_ret
          exact ⟨rfl, Q3.out⟩
      · have g50 := of_decide_eq_true h50
        go_wp2_with fail
        with_reducible refine HA1.out.mono ?_
        rintro e w2 ⟨rfl, q⟩
        have Q2 := Lib.hid q
        have HA2 := Lib.hid (awakeEl_any w2)
        clear q
        go_wp2_with fail
        with_reducible refine HA2.out.mono ?_
        rintro e w3 ⟨rfl, q⟩
        have Q3 := Lib.hid (bthen Q2.out q)
        clear q
        go_wp2_with fail
        go_ret
        exact ⟨rfl, Q3.out⟩
end Go.Proofs.Ytkkomaohcijhnaa.elementCopies
namespace Go.Proofs.Ytkkomaohcijhnaa.elementCopies
open Go.ChangeShapes Go.WideShapes Go.ChangeAt Go.RowKit
open Go.ChangeMaps (open_string shut_string)
set_option linter.unusedVariables false
set_option maxRecDepth 100000 in
theorem lifted (os : Os) (started : os.Started) (H : Type) (enc : TypeId × Value → H) :
    ReturnsInHanded {} Try.checked os 9 .any (Rows.elementCopiesSpec.pre6 enc Try.prog Try.f9 Rows.elementCopiesRow.domain false) (Rows.elementCopiesSpec.post enc Try.prog Try.f9 false true false false) := by
  refine returnsInHanded_of_change_sized (C := Try.checked) ownKnob_none started (by kernel_rfl) Try.func9
    (ChangeSpec.witness6 (enc := enc) (C := Try.checked) false ⟨#[], #[.slice none 0 0], []⟩ 8 (by kernel_rfl) (by kernel_rfl) (by kernel_rfl) (by kernel_rfl)) ?_
  intro W base args ds gs before hval0 hW hcnd hsz0 _
  have hsz : (DataW.weightsEach Try.prog (Try.f9.params.toList ++ Rows.elementCopiesSpec.plain.varTypes Try.prog) (ds ++ gs)).all (· ≤ reachBytes) = true := hsz0
  clear hsz0
  have hval : ∀ (j : Nat) t v, Try.f9.params[j]? = some t → args[j]? = some v → Value.okWide Try.prog W .any base t v := hval0
  have hW' := hW
  obtain ⟨p, q, hA0, hV, rfl, hfz, hnd⟩ := hW
  have hA : DataW.TrodAll enc Try.prog W 0 (fun _ => true) true Try.f9.params.toList args.toList ds p := hA0
  rw [Try.params9] at hA hval
  obtain ⟨v0, vs0, d0, ds0, p0, q0, hargs, rfl, rfl, h0, r0⟩ := trodAll_cons hA
  obtain ⟨rfl, rfl, rfl⟩ := trodAll_nil r0
  obtain rfl : args = #[v0] := by cases args; simp_all
  obtain ⟨rfl, rfl⟩ := trodVars_none hV
  have k0 := h0
  have lt0 : ∀ x ∈ p0, x.block < W.heap.size := by obtain ⟨m, hm⟩ := k0; exact DataW.trod_lt m _ _ _ hm
  obtain ⟨a0, n0, c0, rfl⟩ := okWide_slice Try.underlying41 (hval 0 41 v0 rfl rfl)
  obtain ⟨l0, b0, m0⟩ := rw_opened h0 (sized_at hsz 0 rfl rfl)
  clear hA0 hval0
  refine (walk b0 m0).mono fun e W' ⟨he, bel⟩ => ?_
  subst he
  exact ⟨_, rfl, _, _, _, [], _, [], hW', trodAll_mk1 (shut_bool Try.underlying4 _), (trodAll_cons_mk (Below.trod laidOut_ok (by kernel_rfl) (of_decide_eq_true (by kernel_rfl)) k0 bel lt0) trodAll_mk0), rfl, bel.frame _, fun h => by cases h⟩
theorem over : Rows.elementCopiesRow.holds Try.pinned (OpenSpec.ofChange Rows.elementCopiesSpec) :=
  OpenClaim.holds_of_wide 9 Try.f9 rfl rfl rfl rfl rfl rfl rfl ⟨rfl, rfl, rfl, rfl, rfl⟩ rfl rfl rfl rfl rfl (by kernel_rfl) Try.func9 (by kernel_rfl)
    (of_decide_eq_true (by kernel_rfl)) (by unfold Func.isWrapper; first | (rw [if_pos (by decide +kernel)]; kernel_rfl) | (rw [if_neg (by decide +kernel)]; exact ⟨rfl, rfl⟩))
    (fun os started H enc _ => lifted os started H enc)
theorem proved : Rows.ElementCopiesSaid := over
#print axioms proved
end Go.Proofs.Ytkkomaohcijhnaa.elementCopies
