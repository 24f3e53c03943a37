/-
  The walk of the law TreeFinds.
-/
import Derived.Test.YtgccjdhkpgmnoaaAwakeTree
import Derived.Test.YtgccjdhkpgmnoaaTreeFindR
namespace Go.Proofs.Ytgccjdhkpgmnoaa.treeFinds
open Go.RowKit

theorem nd_form {w : World} {R : Nat → Prop} {cs : List Value} {t : Tree} (h : NdCs w R cs t) : ∃ (c n : Int) (k : Bool) (a : Option Addr) (m d : Nat) (ka : Option Addr) (kn kc : Nat), cs = [.int .i64 c, .int .i64 n, .bool k, .slice a m d, .slice ka kn kc] := by
  cases t with
  | node c n k l ks =>
    obtain ⟨a, m, d, ka, kn, kc, e, _⟩ := h
    exact ⟨c, n, k, a, m, d, ka, kn, kc, e⟩
theorem two {W : World} {g : Nat} {t : TypeId} {x y : Value} (h : Blk W g t #[x, y]) : W.cell? ⟨g, 0, none⟩ = some x ∧ W.cell? ⟨g, 1, none⟩ = some y ∧ g < W.heap.size := ⟨h.cell 0, h.cell 1, h.lt⟩

set_option maxRecDepth 100000 in
set_option maxHeartbeats 2000000 in
/-- where there is no such element, both have the same error -/
theorem walk_neg {w : World} {a0 : Option Addr} {n0 c0 : Nat} {a1 : Option Addr} {n1 c1 : Nat} (h0 : n0 ≤ 1500) (h1 : n1 ≤ 40) {C O : Nat} (hC0 : C ≠ 0)
    (HF1 : Hid (∀ W, Below w.heap.size w W → Calls Try.prog 26 #[.slice a0 n0 c0, .slice a1 n1 c1] W fun e w' => e = .returned (.tuple #[.agg #[.int .i64 0, .int .i64 0], .agg #[.int .i64 C, .int .i64 O]]) ∧ Below W.heap.size W w'))
    (HF2 : Hid (∀ W, Below w.heap.size w W → Calls Try.prog 27 #[.slice a0 n0 c0, .slice a1 n1 c1] W fun e w' => e = .returned (.tuple #[.agg #[.int .i64 0, .int .i64 0], .agg #[.int .i64 C, .int .i64 O]]) ∧ Below W.heap.size W w')) :
    Calls Try.prog 7 #[.slice a0 n0 c0, .slice a1 n1 c1] w fun e w' => e = .returned (.bool true) ∧ Below w.heap.size w w' := by
  have HA := Lib.hid (awakeTree_any)
  have h0i : (n0 : Int) ≤ 1500 := by omega
  have h1i : (n1 : Int) ≤ 40 := by omega
  have hC : ((C : Int) == 0) = false := by simp; omega
  have hC2 : ((C : Int) != 0) = true := by simp; omega
  go_enter Try.func7, Try.ntmps7
  go_wp2_with fail
  refine (HA.out _).mono ?_
  rintro e w1 ⟨rfl, q⟩
  have Q1 := Lib.hid q
  clear q HA
  go_wp2_with fail
  refine (HF1.out _ Q1.out).mono ?_
  rintro e w2 ⟨rfl, q⟩
  have Q2 := Lib.hid (bal (bal (bthen Q1.out q) (.cells #[.int .i64 0, .int .i64 0] 47)) (.cells #[.int .i64 C, .int .i64 O] 29))
  have R2 := Lib.hid ((Blk.new w2 47 #[.int .i64 0, .int .i64 0]).alloc (.cells #[.int .i64 C, .int .i64 O] 29))
  have E2 : Hid (Blk ((w2.alloc (.cells #[.int .i64 0, .int .i64 0] 47)).alloc (.cells #[.int .i64 C, .int .i64 O] 29)) (w2.heap.size + 1) 29 #[.int .i64 C, .int .i64 O]) := by
    have := Blk.new (w2.alloc (.cells #[.int .i64 0, .int .i64 0] 47)) 29 #[.int .i64 C, .int .i64 O]
    show Blk _ _ _ _
    simpa using this
  clear q HF1 Q1
  go_wp2_with fail
  refine (HF2.out _ Q2.out).mono ?_
  rintro e w3 ⟨rfl, q⟩
  have Q3 := Lib.hid (bal (bal (bthen Q2.out q) (.cells #[.int .i64 0, .int .i64 0] 47)) (.cells #[.int .i64 C, .int .i64 O] 29))
  obtain ⟨r0, r1, rl⟩ := two (R2.out.below q R2.out.lt)
  obtain ⟨e0, e1, el⟩ := two (E2.out.below q E2.out.lt)
  clear q HF2 Q2 R2 E2
  go_wp2_with fail
  go_ret
  exact ⟨rfl, Q3.out⟩

theorem find_pos {w w' : World} {path : List Int} {t u : Tree} {s pos : Nat} {e : Ending} (h : locT path t 0 = ⟨true, pos, u⟩) (hf : FindPost w path (.ok t s) e w') :
    e = .returned (.tuple #[.agg #[.int .i64 pos, .int .i64 (pos + (encT u).length : Nat)], .agg #[.int .i64 0, .int .i64 0]]) ∧ Below w.heap.size w w' := by
  obtain ⟨h1, h2⟩ := hf
  simp only [h, if_true] at h1
  exact ⟨h1, h2⟩
theorem find_neg {w w' : World} {path : List Int} {t u : Tree} {s pos : Nat} {e : Ending} (h : locT path t 0 = ⟨false, pos, u⟩) (hf : FindPost w path (.ok t s) e w') :
    e = .returned (.tuple #[.agg #[.int .i64 0, .int .i64 0], .agg #[.int .i64 (10 : Nat), .int .i64 pos]]) ∧ Below w.heap.size w w' := by
  obtain ⟨h1, h2⟩ := hf
  simp only [h, Bool.false_eq_true, if_false] at h1
  exact ⟨h1, h2⟩

set_option maxRecDepth 100000 in
set_option maxHeartbeats 4000000 in
theorem walk {w : World} {a0 : Option Addr} {n0 c0 : Nat} {l0 : List UInt8} {a1 : Option Addr} {n1 c1 : Nat} {l1 : List Int} (b0 : Bs w a0 n0 c0 l0) (b1 : Iz w a1 n1 c1 l1) :
    Calls Try.prog 7 #[.slice a0 n0 c0, .slice a1 n1 c1] w fun e w' => e = .returned (.bool true) ∧ Below w.heap.size w w' := by
  have hlen := b0.len
  have hcap := b0.2.1
  have hmx := b0.2.2.1
  have hcap1 := b1.2.1
  have hmx1 := b1.2.2.1
  unfold maxLen at hmx hmx1
  have hn9 : (n0 : Int) ≤ 9223372036854775807 := by omega
  have hn19 : (n1 : Int) ≤ 9223372036854775807 := by omega
  by_cases hs : n0 ≤ 1500 ∧ n1 ≤ 40
  · obtain ⟨h0, h1⟩ := hs
    have HF1 := fun W (h : Below w.heap.size w W) => find_any (b0.below h) (by omega) (b1.below h)
    have HF2 := fun W (h : Below w.heap.size w W) => ref_find_any (b0.below h) (by omega) (b1.below h)
    rcases hr : parseT 16 l0 with ⟨t, s⟩ | ⟨C, O⟩
    · rw [hr] at HF1 HF2
      rcases hl : locT l1 t 0 with ⟨ok, pos, u⟩
      cases ok with
      | true =>
        obtain ⟨hok, hdep, henc, _⟩ := parseT_ok hr
        have hlo := locT_ok l1 t 0 l0 hok (by rw [List.drop_zero, henc, List.take_length]) (by rw [henc]; omega)
        rw [hl] at hlo
        obtain ⟨hoku, hdu, _, hfit, hoct⟩ := hlo
        simp only at hoku hdu hfit hoct
        rw [henc, hlen] at hfit
        have hpu := parseT_enc hoku (Nat.le_trans hdu hdep) (by omega)
        have hszt : sizT t ≤ n0 := by
          have h4 := rdT_lim 16 l0
          have hr2 := hr
          unfold parseT at hr2
          rcases hq : rdT 16 l0 with ⟨t', s'⟩ | ⟨c', o'⟩
          · rw [hq] at h4 hr2
            simp only at h4 hr2
            split at hr2
            · cases hr2
            · injection hr2 with e1 e2
              subst e1
              omega
          · rw [hq] at hr2
            cases hr2
        have HG1 := Lib.hid (fun W (h : Below w.heap.size w W) => (HF1 W h).mono fun e w' he => find_pos hl he)
        have HG2 := Lib.hid (fun W (h : Below w.heap.size w W) => (HF2 W h).mono fun e w' he => find_pos hl he)
        have hul := (encT_pos u).1
        have HPA := Lib.hid (fun W (h : Below w.heap.size w W) => parse_any (b0.below h) (by omega))
        rw [hr] at HPA
        unfold ParsePost erV at HPA
        simp only at HPA
        obtain ⟨LU, hLU⟩ : ∃ LU, Hid ((encT u).length = LU) := ⟨_, rfl⟩
        rw [hLU.out] at hfit hoct hul HG1 HG2 hpu
        obtain ⟨TO, hTO⟩ : ∃ TO, Hid (pos + LU = TO) := ⟨_, rfl⟩
        rw [hTO.out] at HG1 HG2
        obtain ⟨b, off, _, rfl, hb, _⟩ := b0.at_ (i := 0) (by omega)
        have hmid := bs_mid b0 (i := pos) (m := LU) (by omega) (by omega)
        rw [hoct] at hmid
        have HPU := Lib.hid (fun W (h : Below w.heap.size w W) => parse_any (hmid.below h) (by omega))
        rw [hpu] at HPU
        unfold ParsePost erV at HPU
        simp only at HPU
        have HN := Lib.hid (fun (w : World) (R R' : Nat → Prop) (cs cs' : List Value) (h : NdCs w R cs u) (h' : NdCs w R' cs' u) => node_any _ u u w R R' cs cs' (Nat.le_refl _) h h')
        rw [eqT_self] at HN
        have HL := Lib.hid hl
        have HB1 := Lib.hid b1
        have hp1 := b1.1
        have HSZ := Lib.hid hszt
        have g1 : (pos : Int) ≤ TO := by have := hTO.out; omega
        have g2 : (TO : Int) ≤ n0 := by have := hTO.out; omega
        have g3 : (TO : Int) ≤ c0 := by omega
        have g4 : TO - pos = LU := by have := hTO.out; omega
        have g5 : (0 : Int) ≤ pos := by omega
        have g6 : pos ≤ TO := by omega
        have g7 : (pos : Int) ≤ c0 := by omega
        have g8 : ¬ c0 = pos := by have := hTO.out; omega
        have h0i : (n0 : Int) ≤ 1500 := by omega
        have h1i : (n1 : Int) ≤ 40 := by omega
        have HA := Lib.hid (awakeTree_any)
        clear HF1 HF2 hr hl hok hdep henc hoku hdu hoct hpu hmid b0 b1 hlen hszt
        go_enter Try.func7, Try.ntmps7
        go_wp2_with fail
        refine (HA.out _).mono ?_
        rintro e w1 ⟨rfl, q⟩
        have Q1 := Lib.hid q
        clear q HA
        go_wp2_with fail
        refine (HG1.out _ Q1.out).mono ?_
        rintro e w2 ⟨rfl, q⟩
        have U2 := Lib.hid (bal (bal (Below.refl _ w2) (.cells #[.int .i64 pos, .int .i64 TO] 47)) (.cells #[.int .i64 0, .int .i64 0] 29))
        have Q2 := Lib.hid (bthen (bthen Q1.out q) U2.out)
        have R2 := Lib.hid ((Blk.new w2 47 #[.int .i64 pos, .int .i64 TO]).alloc (.cells #[.int .i64 0, .int .i64 0] 29))
        have E2 : Hid (Blk ((w2.alloc (.cells #[.int .i64 pos, .int .i64 TO] 47)).alloc (.cells #[.int .i64 0, .int .i64 0] 29)) (w2.heap.size + 1) 29 #[.int .i64 0, .int .i64 0]) := by
          have := Blk.new (w2.alloc (.cells #[.int .i64 pos, .int .i64 TO] 47)) 29 #[.int .i64 0, .int .i64 0]
          show Blk _ _ _ _
          simpa using this
        clear q HG1 Q1 U2
        go_wp2_with fail
        refine (HG2.out _ Q2.out).mono ?_
        rintro e w3 ⟨rfl, q⟩
        have Q3 := Lib.hid (bal (bal (bthen Q2.out q) (.cells #[.int .i64 pos, .int .i64 TO] 47)) (.cells #[.int .i64 0, .int .i64 0] 29))
        obtain ⟨r0, r1, rl⟩ := two (R2.out.below q R2.out.lt)
        obtain ⟨e0, e1, el⟩ := two (E2.out.below q E2.out.lt)
        clear q HG2 Q2 R2 E2
        go_wp2_with fail
        refine (HPU.out _ Q3.out).mono ?_
        rintro e w4 ⟨cs4, rfl, hnd4, q⟩
        obtain ⟨c4, n4, k4, a4, m4, d4, ka4, kn4, kc4, rfl⟩ := nd_form hnd4
        have U4 := Lib.hid (bal (bal (Below.refl _ w4) (.cells #[.int .i64 c4, .int .i64 n4, .bool k4, .slice a4 m4 d4, .slice ka4 kn4 kc4] 26)) (.cells #[.int .i64 0, .int .i64 0] 29))
        have Q4 := Lib.hid (bthen (bthen Q3.out q) U4.out)
        have NU4 := Lib.hid (hnd4.below U4.out)
        have NB4 := Lib.hid ((Blk.new w4 26 #[.int .i64 c4, .int .i64 n4, .bool k4, .slice a4 m4 d4, .slice ka4 kn4 kc4]).alloc (.cells #[.int .i64 0, .int .i64 0] 29))
        have F4 : Hid (Blk ((w4.alloc (.cells #[.int .i64 c4, .int .i64 n4, .bool k4, .slice a4 m4 d4, .slice ka4 kn4 kc4] 26)).alloc (.cells #[.int .i64 0, .int .i64 0] 29)) (w4.heap.size + 1) 29 #[.int .i64 0, .int .i64 0]) := by
          have := Blk.new (w4.alloc (.cells #[.int .i64 c4, .int .i64 n4, .bool k4, .slice a4 m4 d4, .slice ka4 kn4 kc4] 26)) 29 #[.int .i64 0, .int .i64 0]
          show Blk _ _ _ _
          simpa using this
        clear q hnd4 HPU Q3 r0 r1 rl e0 e1 el U4
        go_wp2_with fail
        refine (HPA.out _ Q4.out).mono ?_
        rintro e w5 ⟨cs5, rfl, hnd5, q⟩
        obtain ⟨c5, n5, k5, a5, m5, d5, ka5, kn5, kc5, rfl⟩ := nd_form hnd5
        have U5 := Lib.hid (bal (bal (Below.refl _ w5) (.cells #[.int .i64 c5, .int .i64 n5, .bool k5, .slice a5 m5 d5, .slice ka5 kn5 kc5] 26)) (.cells #[.int .i64 0, .int .i64 0] 29))
        have Q5 := Lib.hid (bthen (bthen Q4.out q) U5.out)
        have NT5 := Lib.hid ((hnd5.weak (R' := fun b => b < w5.heap.size) fun b hb _ => hb).below U5.out)
        have NU5 := Lib.hid (((NU4.out.below q).weak (R' := fun b => b < w5.heap.size) fun b hb _ => hb).below U5.out)
        have NB5 := Lib.hid ((NB4.out.below q NB4.out.lt).below U5.out (NB4.out.below q NB4.out.lt).lt)
        have F5 := Lib.hid ((F4.out.below q F4.out.lt).below U5.out (F4.out.below q F4.out.lt).lt)
        have hlt1 := (NB4.out.below q NB4.out.lt).lt
        have hlt2 := (F4.out.below q F4.out.lt).lt
        have MB5 := Lib.hid ((Blk.new w5 26 #[.int .i64 c5, .int .i64 n5, .bool k5, .slice a5 m5 d5, .slice ka5 kn5 kc5]).alloc (.cells #[.int .i64 0, .int .i64 0] 29))
        have H5 : Hid (Blk ((w5.alloc (.cells #[.int .i64 c5, .int .i64 n5, .bool k5, .slice a5 m5 d5, .slice ka5 kn5 kc5] 26)).alloc (.cells #[.int .i64 0, .int .i64 0] 29)) (w5.heap.size + 1) 29 #[.int .i64 0, .int .i64 0]) := by
          have := Blk.new (w5.alloc (.cells #[.int .i64 c5, .int .i64 n5, .bool k5, .slice a5 m5 d5, .slice ka5 kn5 kc5] 26)) 29 #[.int .i64 0, .int .i64 0]
          show Blk _ _ _ _
          simpa using this
        have hq5 := Q4.out.size
        have hqq := q.size
        clear q hnd5 HPA Q4 NU4 NB4 F4 U5
        go_wp2_with fail
        generalize (w5.alloc (.cells #[.int .i64 c5, .int .i64 n5, .bool k5, .slice a5 m5 d5, .slice ka5 kn5 kc5] 26)).alloc (.cells #[.int .i64 0, .int .i64 0] 29) = W5 at *
        obtain ⟨GN, hGN⟩ : ∃ GN, Hid (w5.heap.size = GN) := ⟨_, rfl⟩
        obtain ⟨GM, hGM⟩ : ∃ GM, Hid (w4.heap.size = GM) := ⟨_, rfl⟩
        have hGw : w.heap.size ≤ GN := by have := hGN.out; have : _ ≤ w5.heap.size := hqq; omega
        rw [hGN.out] at NT5 NU5 MB5 H5 hlt1 hlt2 ⊢
        rw [hGM.out] at NB5 F5 hlt1 hlt2 ⊢
        clear hq5 hqq hGN hGM
        go_loopw [13] (fun i wr => ∃ (j p : Nat) (v : Tree) (c1 n1' : Int) (k1 : Bool) (a1' : Option Addr) (m1 d1 : Nat) (ka : Option Addr) (kn kc : Nat), i = .int .i64 j ∧ j ≤ n1 ∧ locT (l1.drop j) v p = ⟨true, pos, u⟩ ∧ sizT v ≤ 10000 ∧
          NdCs wr (fun b => b < GN) [.int .i64 c1, .int .i64 n1', .bool k1, .slice a1' m1 d1, .slice ka kn kc] v ∧ Blk wr GN 26 #[.int .i64 c1, .int .i64 n1', .bool k1, .slice a1' m1 d1, .slice ka kn kc] ∧
          NdCs wr (fun b => b < GN) [.int .i64 c4, .int .i64 n4, .bool k4, .slice a4 m4 d4, .slice ka4 kn4 kc4] u ∧ Blk wr GM 26 #[.int .i64 c4, .int .i64 n4, .bool k4, .slice a4 m4 d4, .slice ka4 kn4 kc4] ∧
          Blk wr (GM + 1) 29 #[.int .i64 0, .int .i64 0] ∧ Blk wr (GN + 1) 29 #[.int .i64 0, .int .i64 0] ∧ Below w.heap.size w wr) (fun i _ => n1 - (intOf i).toNat)
        case atStart => exact ⟨0, 0, t, _, _, _, _, _, _, _, _, _, rfl, Nat.zero_le _, by rw [List.drop_zero]; exact HL.out, by have := HSZ.out; omega, NT5.out, MB5.out, NU5.out, NB5.out, F5.out, H5.out, Q5.out⟩
        case round =>
          obtain ⟨j, p, v, c1', n1', k1, a1', m1, d1, ka, kn, kc, rfl, hj, hloc, hsv, hND, hN, hNU, hNB, hF, hH, hQ⟩ := hrel
          have LOC := Lib.hid hloc
          have BND := Lib.hid hND
          have BN := Lib.hid hN
          have BNU := Lib.hid hNU
          have BNB := Lib.hid hNB
          have BF := Lib.hid hF
          have BH := Lib.hid hH
          have Q := Lib.hid hQ
          obtain ⟨hu, _, hK, _⟩ := hND.take_
          have HK := Lib.hid hK
          have hkl := hK.1
          have hkc := hK.2.1
          have hkm := hK.2.2.1
          unfold maxLen at hkm
          have hku : (kidsOf v).length ≤ 10000 := by have := len_sizTs (kidsOf v); have := siz_kids v; omega
          have hkn1 : (kn : Int) ≤ 10000 := by omega
          clear hloc hND hN hNU hNB hF hH hQ hu hK NT5 MB5 NU5 NB5 F5 H5 Q5
          obtain ⟨n0', n1'', n2, n3, n4', nl⟩ := five BN.out
          by_cases hlt : j < n1
          · obtain ⟨pb, po, hjl, rfl, hpb, pcell, hzlo, hzhi⟩ := (HB1.out.below Q.out).at_ hlt
            have LOC2 := LOC.out
            rw [drop_cons hjl] at LOC2
            generalize l1[j] = z at *
            have hlt' : (j : Int) < n1 := by omega
            have hj0 : (0 : Int) ≤ j := by omega
            have hz : 0 ≤ z ∧ z < kn := by
              by_cases hzn : z < 0 ∨ (kn : Int) ≤ z
              · rw [locT_stop (by omega)] at LOC2
                injection LOC2 with h1 _ _
                cases h1
              · omega
            obtain ⟨x, rfl⟩ : ∃ x : Nat, z = x := ⟨z.toNat, by omega⟩
            obtain ⟨hz0, hzk⟩ := hz
            have hxk : x < (kidsOf v).length := by omega
            rw [locT_step (by omega) (by simpa using hxk)] at LOC2
            simp only [Int.toNat_natCast] at LOC2
            have hsiz := siz_kid hxk
            have LOC3 := Lib.hid LOC2
            have hdk : decide (kn ≤ x) = false := by simp; omega
            clear LOC2
            go_wp2_with fail
            go_quiet (fail)
            have BNq := BN.out.drewN nq
            have Qq : Below wr.heap.size wr (wr.drewN nq) := below_drewN (Below.refl _ _) nq
            have pcq : (wr.drewN nq).cell? ⟨pb, po + j, none⟩ = some (.int .i64 x) := pcell
            obtain ⟨wq, hwq⟩ : ∃ wq, wr.drewN nq = wq := ⟨_, rfl⟩
            rw [hwq] at BNq Qq pcq ⊢
            have NDq := Lib.hid (BND.out.below Qq)
            have HKq := Lib.hid (HK.out.below Qq)
            have NUq := Lib.hid (BNU.out.below Qq)
            have NBq := Lib.hid (BNB.out.below Qq BNB.out.lt)
            have Fq := Lib.hid (BF.out.below Qq BF.out.lt)
            have Hq := Lib.hid (BH.out.below Qq BH.out.lt)
            have Q1 := Lib.hid (bthen Q.out Qq)
            have NQ := Lib.hid BNq
            have hpbq : pb < wq.heap.size := by have := Qq.size; omega
            clear hwq Qq BNq BND BN BNU BNB BF BH Q HK n0' n1'' n2 n3 n4' nl pcell hpb
            obtain ⟨n0', n1'', n2, n3, n4', nl⟩ := five NQ.out
            have nf := fun i => NQ.out.frozen i
            obtain ⟨kb, ko, hl, rfl, hkb, c3, n3', k3, a3, m3, d3, ka3, kn3, kc3, y0, y1, y2, y3, y4, hn3⟩ := HKq.out.kid (show x < kn by omega)
            have KB : kb < GN := by
              obtain ⟨kb', ko', e, _, hr, _⟩ := HKq.out.2.2.2 (by omega)
              injection e with e
              injection e with e
              omega
            have hkg : kb ≠ GN := by omega
            have ND7 := Lib.hid hn3
            clear hn3
            go_wp2_with fail
            go_region
            go_wp2_with fail
            go_roundw
            case rel =>
              refine ⟨j + 1, _, _, c3, n3', k3, a3, m3, d3, ka3, kn3, kc3, by go_num, by omega, LOC3.out, by omega, ?_, ?_, ?_, ?_, ?_, ?_, ?_⟩
              · refine NdCs.drew (NdCs.far (p := ⟨GN, 4, none⟩) (NdCs.far (p := ⟨GN, 3, none⟩) (NdCs.far (p := ⟨GN, 2, none⟩) (NdCs.far (p := ⟨GN, 1, none⟩) (NdCs.far (p := ⟨GN, 0, none⟩) ND7.out ?_ _) ?_ _) ?_ _) ?_ _) ?_ _) <;> (intro b hb; simp at hb ⊢; omega)
              · exact (((((NQ.out.set_ 0 _).set_ 1 _).set_ 2 _).set_ 3 _).set_ 4 _).drewN 1
              · refine NdCs.drew (NdCs.far (p := ⟨GN, 4, none⟩) (NdCs.far (p := ⟨GN, 3, none⟩) (NdCs.far (p := ⟨GN, 2, none⟩) (NdCs.far (p := ⟨GN, 1, none⟩) (NdCs.far (p := ⟨GN, 0, none⟩) NUq.out ?_ _) ?_ _) ?_ _) ?_ _) ?_ _) <;> (intro b hb; simp at hb ⊢; omega)
              · exact (((((NBq.out.far (p := ⟨GN, 0, none⟩) (by simp; omega) _).far (p := ⟨GN, 1, none⟩) (by simp; omega) _).far (p := ⟨GN, 2, none⟩) (by simp; omega) _).far (p := ⟨GN, 3, none⟩) (by simp; omega) _).far (p := ⟨GN, 4, none⟩) (by simp; omega) _).drewN 1
              · exact (((((Fq.out.far (p := ⟨GN, 0, none⟩) (by simp; omega) _).far (p := ⟨GN, 1, none⟩) (by simp; omega) _).far (p := ⟨GN, 2, none⟩) (by simp; omega) _).far (p := ⟨GN, 3, none⟩) (by simp; omega) _).far (p := ⟨GN, 4, none⟩) (by simp; omega) _).drewN 1
              · exact (((((Hq.out.far (p := ⟨GN, 0, none⟩) (by simp) _).far (p := ⟨GN, 1, none⟩) (by simp) _).far (p := ⟨GN, 2, none⟩) (by simp) _).far (p := ⟨GN, 3, none⟩) (by simp) _).far (p := ⟨GN, 4, none⟩) (by simp) _).drewN 1
              · exact below_drewN (((((Q1.out.setCell (p := ⟨GN, 0, none⟩) (by simp; omega) _).setCell (p := ⟨GN, 1, none⟩) (by simp; omega) _).setCell (p := ⟨GN, 2, none⟩) (by simp; omega) _).setCell (p := ⟨GN, 3, none⟩) (by simp; omega) _).setCell (p := ⟨GN, 4, none⟩) (by simp; omega) _) 1
            case measure => simp [intOf]; omega
          · have hje : j = n1 := by omega
            subst hje
            have LOC2 := LOC.out
            rw [List.drop_of_length_le (by omega), locT] at LOC2
            injection LOC2 with _ _ hvu
            subst hvu
            have HNN := Lib.hid (HN.out _ _ _ _ _ BNU.out BND.out)
            obtain ⟨b0', b1', b2', b3', b4', bl⟩ := five BNB.out
            obtain ⟨e0, e1, el⟩ := two BF.out
            obtain ⟨f0, f1, fl⟩ := two BH.out
            go_wp2_with fail
            refine HNN.out.mono ?_
            rintro e w9 ⟨rfl, q⟩
            have Q9 := Lib.hid (bthen Q.out q)
            go_wp2_with fail
            go_ret
            exact ⟨rfl, Q9.out⟩
      | false =>
        exact walk_neg h0 h1 (C := 10) (O := pos) (by omega) (Lib.hid fun W h => (HF1 W h).mono fun e w' he => find_neg hl he) (Lib.hid fun W h => (HF2 W h).mono fun e w' he => find_neg hl he)
    · rw [hr] at HF1 HF2
      obtain ⟨_, hc⟩ := parseT_err hr
      exact walk_neg h0 h1 (C := C) (O := O) (by omega) (Lib.hid HF1) (Lib.hid HF2)
  · have HA := Lib.hid (awakeTree_any)
    clear b0 b1 hlen
    by_cases h0 : n0 ≤ 1500
    · have h0i : (n0 : Int) ≤ 1500 := by omega
      have h1i : (40 : Int) < n1 := by omega
      clear hs
      go_enter Try.func7, Try.ntmps7
      go_wp2_with fail
      refine (HA.out _).mono ?_
      rintro e w1 ⟨rfl, q1⟩
      have Q1 := Lib.hid q1
      clear q1
      go_wp2_with fail
      refine (HA.out _).mono ?_
      rintro e w2 ⟨rfl, q2⟩
      go_wp2_with fail
      go_ret
      exact ⟨rfl, bthen Q1.out q2⟩
    · have h0i : (1500 : Int) < n0 := by omega
      clear hs
      go_enter Try.func7, Try.ntmps7
      go_wp2_with fail
      refine (HA.out _).mono ?_
      rintro e w1 ⟨rfl, q1⟩
      have Q1 := Lib.hid q1
      clear q1
      go_wp2_with fail
      refine (HA.out _).mono ?_
      rintro e w2 ⟨rfl, q2⟩
      go_wp2_with fail
      go_ret
      exact ⟨rfl, bthen Q1.out q2⟩
end Go.Proofs.Ytgccjdhkpgmnoaa.treeFinds
