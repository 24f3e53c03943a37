/-
  The walk of the law TreeDepths.
-/
import Derived.Test.YtgccjdhkpgmnoaaAwakeTree
import Derived.Test.YtgccjdhkpgmnoaaTreeBytes
import Derived.OpenShut
namespace Go.Proofs.Ytgccjdhkpgmnoaa.treeDepths
open Go.RowKit

/-- constructed elements in one another -/
def chainT (c : Nat) (l : List UInt8) : Nat → Tree
  | 0 => .node c 4 false l []
  | k + 1 => .node c 16 true [] [chainT c l k]
theorem chain_ok {c : Nat} (hc : c ≤ 3) (l : List UInt8) : ∀ k, okT (chainT c l k) = true ∧ depT (chainT c l k) = k + 1 ∧ sizT (chainT c l k) = k + l.length + 1
  | 0 => by
    refine ⟨?_, rfl, ?_⟩
    · show okT (.node c 4 false l []) = true
      rw [okT, okTs, Bool.and_true, okN_iff]
      exact ⟨by omega, by omega, by omega, by omega, (fun h => by cases h), fun _ => rfl⟩
    · show sizT (.node c 4 false l []) = _
      rw [sizT, sizTs]
  | k + 1 => by
    obtain ⟨h1, h2, h3⟩ := chain_ok hc l k
    refine ⟨?_, ?_, ?_⟩
    · show okT (.node c 16 true [] [chainT c l k]) = true
      rw [okT, okTs, h1, okTs, okN_iff.2 ⟨by omega, by omega, by omega, by omega, fun _ => rfl, fun h => by cases h⟩]
      rfl
    · show depT (.node c 16 true [] [chainT c l k]) = _
      rw [depT, depTs, h2, depTs]
      omega
    · show sizT (.node c 16 true [] [chainT c l k]) = _
      rw [sizT, sizTs, h3, sizTs, List.length_nil]
      omega
theorem chain_deep {c : Nat} (hc : c ≤ 3) (l : List UInt8) : ∀ (d k : Nat) (r : List UInt8), d ≤ k → (encT (chainT c l k)).length ≤ 2147483647 → ∃ o, rdT d (encT (chainT c l k) ++ r) = .err 5 o
  | 0, k, r, _, _ => ⟨0, by rw [rdT]⟩
  | d + 1, 0, r, h, _ => absurd h (by omega)
  | d + 1, k + 1, r, h, hl => by
    have hE : encT (chainT c l (k + 1)) = encB c 16 true (encT (chainT c l k)) := by
      show encT (.node c 16 true [] [chainT c l k]) = _
      rw [encT, encTs_cons, encTs_nil, List.append_nil, List.nil_append]
      rfl
    have hlen := encB_len c 16 true (encT (chainT c l k))
    rw [hE] at hl
    have hN := rdNext_enc (c := c) (n := 16) (by omega) (by omega) true (l := encT (chainT c l k)) (by omega) r
    obtain ⟨o, ho⟩ := chain_deep hc l d k [] (by omega) (by omega)
    rw [List.append_nil] at ho
    have hp := encT_pos (chainT c l k)
    rw [hE]
    refine ⟨(lenOct (encT (chainT c l k)).length).length + 1 + o, rdT_con_err (by rw [hN]) (by rw [hN]) ?_⟩
    · rw [hN]
      simp only
      obtain ⟨m, hm⟩ : ∃ m, (encT (chainT c l k)).length = m + 1 := ⟨(encT (chainT c l k)).length - 1, by omega⟩
      rw [hm]
      exact rdKids_err_step hp.2 ho
theorem parse_deep {c : Nat} (hc : c ≤ 3) (l : List UInt8) {k : Nat} (hk : 16 ≤ k) (hl : (encT (chainT c l k)).length ≤ 2147483647) : ∃ o, parseT 16 (encT (chainT c l k)) = .err 5 o := by
  obtain ⟨o, h⟩ := chain_deep hc l 16 k [] hk hl
  rw [List.append_nil] at h
  exact ⟨o, by unfold parseT; rw [h]⟩
/-- a slice of one node, just made, apart from a block -/
theorem kds_litR {w : World} {R : Nat → Prop} {cs : List Value} {t : Tree} {e : TypeId} (h : NdCs w R cs t) (hR : R w.heap.size) : Kds (w.alloc (.cells cs.toArray e)) R (some ⟨w.heap.size, 0, none⟩) 1 1 [t] := by
  refine ⟨rfl, Nat.le_refl _, by decide, fun _ => ⟨w.heap.size, 0, rfl, by simp, hR, ?_⟩⟩
  unfold KdsAt
  refine ⟨NdAt.of (h.below (bal (Below.refl _ w) _)) fun j v hj => ?_, by unfold KdsAt; trivial⟩
  rw [Nat.zero_add, (Blk.new w e cs.toArray).cell j]
  simpa using hj
theorem nd_form {w : World} {R : Nat → Prop} {cs : List Value} {t : Tree} (h : NdCs w R cs t) : ∃ (c n : Int) (k : Bool) (a : Option Addr) (m d : Nat) (ka : Option Addr) (kn kc : Nat), cs = [.int .i64 c, .int .i64 n, .bool k, .slice a m d, .slice ka kn kc] := by
  cases t with
  | node c n k l ks =>
    obtain ⟨a, m, d, ka, kn, kc, e, _⟩ := h
    exact ⟨c, n, k, a, m, d, ka, kn, kc, e⟩

set_option maxRecDepth 100000 in
set_option maxHeartbeats 4000000 in
theorem walk {w : World} {x0 x1 : Int} {a0 : Option Addr} {n0 c0 : Nat} {l0 : List UInt8} (wx0 : (Lit.int .u8 x0).wf = true) (wx1 : (Lit.int .u8 x1).wf = true) (b0 : Bs w a0 n0 c0 l0) :
    Calls Try.prog 6 #[.int .u8 x0, .int .u8 x1, .slice a0 n0 c0] w fun e w' => e = .returned (.bool true) ∧ Below w.heap.size w w' := by
  have HA := Lib.hid (awakeTree_any)
  have HB0 := Lib.hid b0
  have hlen := b0.len
  have hcap := b0.2.1
  have hmx := b0.2.2.1
  unfold maxLen at hmx
  have hn9 : (n0 : Int) ≤ 9223372036854775807 := by omega
  have hx0 := bounds_u8 wx0
  have hx1 := bounds_u8 wx1
  obtain ⟨X0, rfl⟩ : ∃ X : Nat, x0 = X := ⟨x0.toNat, by omega⟩
  obtain ⟨X1, rfl⟩ : ∃ X : Nat, x1 = X := ⟨x1.toNat, by omega⟩
  obtain ⟨CC, hCC⟩ : ∃ CC, Hid (X1 % 4 = CC) := ⟨_, rfl⟩
  obtain ⟨K, hK⟩ : ∃ K, Hid (X0 % 40 = K) := ⟨_, rfl⟩
  have m1 : (X1 : Int) % 4 = CC := by have := hCC.out; omega
  have m2 : (X0 : Int) % 40 = K := by have := hK.out; omega
  have m3 : CC ≤ 3 := by have := hCC.out; omega
  have m4 : K ≤ 39 := by have := hK.out; omega
  have m5 : (CC : Int) ≤ 3 := by omega
  have m6 : (K : Int) ≤ 39 := by omega
  have m7 : (0 : Int) ≤ CC := by omega
  have m8 : (0 : Int) ≤ X0 ∧ (X0 : Int) ≤ 255 := by omega
  have m9 : (0 : Int) ≤ X1 ∧ (X1 : Int) ≤ 255 := by omega
  obtain ⟨m80, m81⟩ := m8
  obtain ⟨m90, m91⟩ := m9
  clear wx0 wx1 hx0 hx1
  by_cases h0 : n0 ≤ 100
  · have h0i : (n0 : Int) ≤ 100 := by omega
    obtain ⟨hok, hdep, hsiz⟩ := chain_ok m3 l0 K
    have hsz : sizT (chainT CC l0 K) ≤ 1000 := by omega
    have hel := encT_size (chainT CC l0 K) (by omega)
    have HBY := Lib.hid (fun (w : World) (R : Nat → Prop) (cs : List Value) (h : NdCs w R cs (chainT CC l0 K)) => ref_bytes_any 1000 _ w R cs hsz (by omega) hok h)
    have HVA := Lib.hid (fun (w : World) (R : Nat → Prop) (cs : List Value) (h : NdCs w R cs (chainT CC l0 K)) => valid_any (w := w) (R := R) (cs := cs) h)
    have HP := Lib.hid (fun (W : World) (aa : Option Addr) (cc : Nat) (h : Bs W aa (encT (chainT CC l0 K)).length cc (encT (chainT CC l0 K))) => parse_any h (by omega))
    rw [hok, hdep] at HVA
    have HDEP := Lib.hid hdep
    have HOK := Lib.hid hok
    have HEL : Hid ((encT (chainT CC l0 K)).length ≤ 6000) := by show _ ≤ _; omega
    have HL := Lib.hid hlen
    clear b0 hok hdep hsiz hel hlen
    go_enter Try.func6, Try.ntmps6
    go_wp2_with fail
    refine (HA.out _).mono ?_
    rintro e w1 ⟨rfl, q1⟩
    have Q1 := Lib.hid (bal q1 (.cells #[.int .i64 CC, .int .i64 4, .bool false, .slice a0 n0 c0, .slice none 0 0] 26))
    have X1' := Lib.hid ((HB0.out.below q1).alloc (.cells #[.int .i64 CC, .int .i64 4, .bool false, .slice a0 n0 c0, .slice none 0 0] 26))
    have N1 := Lib.hid (Blk.new w1 26 #[.int .i64 CC, .int .i64 4, .bool false, .slice a0 n0 c0, .slice none 0 0])
    have hs1 := q1.size
    clear q1 HA
    go_wp2_with fail
    generalize w1.alloc (.cells #[.int .i64 CC, .int .i64 4, .bool false, .slice a0 n0 c0, .slice none 0 0] 26) = W1 at *
    obtain ⟨NB, hNB⟩ : ∃ NB, Hid (w1.heap.size = NB) := ⟨_, rfl⟩
    rw [hNB.out] at N1 hs1 ⊢
    have ND1 : Hid (NdCs W1 (fun b => b ≠ NB) [.int .i64 CC, .int .i64 4, .bool false, .slice a0 n0 c0, .slice none 0 0] (chainT CC l0 0)) :=
      ⟨a0, n0, c0, none, 0, 0, rfl, ⟨X1'.out, fun hn x hx => by
        obtain ⟨b, off, e, hlt, _⟩ := HB0.out.2.2.2 hn
        rw [hx] at e
        injection e with e
        subst e
        simp only
        omega⟩, Kds.nil_ _ _⟩
    clear hNB X1' HB0
    go_loopw [9] (fun i wr => ∃ (j : Nat) (c1 n1 : Int) (k1 : Bool) (a1 : Option Addr) (m1 d1 : Nat) (ka kb : Option Addr) (kn kc : Nat), i = .int .i64 j ∧ j ≤ K ∧ ka = kb ∧
      NdCs wr (fun b => b ≠ NB) [.int .i64 c1, .int .i64 n1, .bool k1, .slice a1 m1 d1, .slice ka kn kc] (chainT CC l0 j) ∧ Blk wr NB 26 #[.int .i64 c1, .int .i64 n1, .bool k1, .slice a1 m1 d1, .slice ka kn kc] ∧ Below w.heap.size w wr) (fun i _ => K - (intOf i).toNat)
    case atStart => exact ⟨0, _, _, _, _, _, _, _, _, _, _, rfl, Nat.zero_le _, rfl, ND1.out, N1.out, Q1.out⟩
    case round =>
      obtain ⟨j, c1, n1, k1, a1, m1', d1, ka, _, kn, kc, rfl, hj, rfl, hND, hN, hQ⟩ := hrel
      have ND := Lib.hid hND
      have N := Lib.hid hN
      have Q := Lib.hid hQ
      clear hND hN hQ ND1 N1 Q1
      obtain ⟨n0', n1', n2, n3, n4, nl⟩ := five N.out
      have nf := fun i => N.out.frozen i
      by_cases hlt : j < K
      · have hlt' : (j : Int) < K := by omega
        have hj0 : (0 : Int) ≤ j := by omega
        go_wp2_with fail
        go_roundw
        case rel =>
          refine ⟨j + 1, CC, 16, true, none, 0, 0, some ⟨wr.heap.size, 0, none⟩, _, 1, 1, by go_num, by omega, rfl, ?_, ?_, ?_⟩
          · have h1 := (((((ND.out.far (p := ⟨NB, 0, none⟩) (fun b hb => hb) (.int .i64 CC)).far (p := ⟨NB, 1, none⟩) (fun b hb => hb) (.int .i64 16)).far (p := ⟨NB, 2, none⟩) (fun b hb => hb) (.bool true)).far (p := ⟨NB, 3, none⟩) (fun b hb => hb) (.slice none 0 0)).far (p := ⟨NB, 4, none⟩) (fun b hb => hb) (.slice (some ⟨wr.heap.size, 0, none⟩) 1 1))
            have hsz2 : (((((wr.setCell ⟨NB, 0, none⟩ (.int .i64 CC)).setCell ⟨NB, 1, none⟩ (.int .i64 16)).setCell ⟨NB, 2, none⟩ (.bool true)).setCell ⟨NB, 3, none⟩ (.slice none 0 0)).setCell ⟨NB, 4, none⟩ (.slice (some ⟨wr.heap.size, 0, none⟩) 1 1)).heap.size = wr.heap.size := by simp [World.setCell]
            generalize ((((wr.setCell ⟨NB, 0, none⟩ (.int .i64 CC)).setCell ⟨NB, 1, none⟩ (.int .i64 16)).setCell ⟨NB, 2, none⟩ (.bool true)).setCell ⟨NB, 3, none⟩ (.slice none 0 0)).setCell ⟨NB, 4, none⟩ (.slice (some ⟨wr.heap.size, 0, none⟩) 1 1) = WW at *
            have h2 := kds_litR (e := 26) h1 (show WW.heap.size ≠ NB by omega)
            rw [hsz2] at h2
            exact ⟨none, 0, 0, _, 1, 1, rfl, BsR.nil_ _ _, h2⟩
          · exact (((((N.out.set_ 0 _).set_ 1 _).set_ 2 _).set_ 3 _).set_ 4 _).alloc _
          · exact bal (((((Q.out.setCell (p := ⟨NB, 0, none⟩) (by simp; omega) _).setCell (p := ⟨NB, 1, none⟩) (by simp; omega) _).setCell (p := ⟨NB, 2, none⟩) (by simp; omega) _).setCell (p := ⟨NB, 3, none⟩) (by simp; omega) _).setCell (p := ⟨NB, 4, none⟩) (by simp; omega) _) _
        case measure => simp [intOf]; omega
      · have hje : j = K := by omega
        subst hje
        go_wp2_with fail
        refine (HBY.out _ _ _ ND.out).mono ?_
        rintro e w2 ⟨a2, c2, rfl, ho2, q⟩
        have X2 := Lib.hid ho2.bs
        have ND2 := Lib.hid (ND.out.below q)
        have N2 := Lib.hid (N.out.below q N.out.lt)
        have Q2 := Lib.hid (bthen Q.out q)
        have HPX := Lib.hid (HP.out _ _ _ X2.out)
        clear q ho2 ND N Q n0' n1' n2 n3 n4 nl nf HP HBY
        by_cases hdeep : 16 ≤ j
        · obtain ⟨o, hp⟩ := parse_deep m3 l0 hdeep (by have := HEL.out; omega)
          rw [hp] at HPX
          unfold ParsePost erV zeroN at HPX
          simp only at HPX
          have hv : (true && decide (j + 1 ≤ 16)) = false := by simp; omega
          rw [hv] at HVA
          have HE := Lib.hid (fun (w : World) (R : Nat → Prop) (cs : List Value) (h : NdCs w R cs (chainT CC l0 j)) => encode_tree_bad (w := w) (R := R) (cs := cs) (by rw [HOK.out, HDEP.out]; exact hv) h)
          have hdi : (16 : Int) ≤ j := by omega
          clear hp hv
          go_wp2_with fail
          refine HPX.out.mono ?_
          rintro e w3 ⟨rfl, q⟩
          have U := Lib.hid (bal (bal (Below.refl _ w3) (.cells #[.int .i64 0, .int .i64 0, .bool false, .slice none 0 0, .slice none 0 0] 26)) (.cells #[.int .i64 5, .int .i64 o] 29))
          have ND3 := Lib.hid ((ND2.out.below q).below U.out)
          have N3 := Lib.hid (N2.out.below q N2.out.lt)
          have N3' := Lib.hid ((N2.out.below q N2.out.lt).below U.out (N2.out.below q N2.out.lt).lt)
          have E3 : Hid (Blk ((w3.alloc (.cells #[.int .i64 0, .int .i64 0, .bool false, .slice none 0 0, .slice none 0 0] 26)).alloc (.cells #[.int .i64 5, .int .i64 o] 29)) (w3.heap.size + 1) 29 #[.int .i64 5, .int .i64 o]) := by
            have := Blk.new (w3.alloc (.cells #[.int .i64 0, .int .i64 0, .bool false, .slice none 0 0, .slice none 0 0] 26)) 29 #[.int .i64 5, .int .i64 o]
            show Blk _ _ _ _
            simpa using this
          have Q3 := Lib.hid (bthen (bthen Q2.out q) U.out)
          have HE3 := Lib.hid (HE.out _ _ _ ND3.out)
          obtain ⟨n0', n1', n2, n3, n4, nl⟩ := five N3.out
          clear q ND2 N2 Q2 X2 HPX HE U
          go_wp2_with fail
          refine HE3.out.mono ?_
          rintro e w4 ⟨rfl, q⟩
          have ND4 := Lib.hid (ND3.out.below q)
          have N4 := Lib.hid (N3'.out.below q N3'.out.lt)
          have E4 := Lib.hid (E3.out.below q E3.out.lt)
          have Q4 := Lib.hid (bthen Q3.out q)
          clear q ND3 N3 N3' E3 Q3 HE3 n0' n1' n2 n3 n4 nl
          obtain ⟨n0', n1', n2, n3, n4, nl⟩ := five N4.out
          have e0 := E4.out.cell 0
          have el := E4.out.lt
          simp only [List.getElem?_toArray, List.getElem?_cons_zero] at e0
          go_wp2_with fail
          refine (HVA.out _ _ _ ND4.out).mono ?_
          rintro e w5 ⟨rfl, q⟩
          have Q5 := Lib.hid (bthen Q4.out q)
          go_wp2_with fail
          go_ret
          exact ⟨rfl, Q5.out⟩
        · have hp := parseT_enc (d := 16) HOK.out (by rw [HDEP.out]; omega) (by have := HEL.out; omega)
          rw [hp] at HPX
          unfold ParsePost erV at HPX
          simp only at HPX
          have hv : (true && decide (j + 1 ≤ 16)) = true := by simp; omega
          have HE := Lib.hid (fun (w : World) (R : Nat → Prop) (cs : List Value) (h : NdCs w R cs (chainT CC l0 j)) => encode_tree_good (w := w) (R := R) (cs := cs) (by omega) (by rw [HOK.out, HDEP.out]; exact hv) h)
          have HN := Lib.hid (fun (w : World) (R R' : Nat → Prop) (cs cs' : List Value) (h : NdCs w R cs (chainT CC l0 j)) (h' : NdCs w R' cs' (chainT CC l0 j)) => node_any _ _ _ w R R' cs cs' (Nat.le_refl _) h h')
          rw [eqT_self] at HN
          have hdi : (j : Int) < 16 := by omega
          obtain ⟨Y, hY⟩ : ∃ Y, Hid (encT (chainT CC l0 j) = Y) := ⟨_, rfl⟩
          rw [hY.out] at HE X2 HPX
          rw [hY.out]
          clear hp hv HVA
          go_wp2_with fail
          refine HPX.out.mono ?_
          rintro e w3 ⟨cs3, rfl, hnd3, q⟩
          obtain ⟨c3, n3', k3, a3, m3', d3, ka3, kn3, kc3, rfl⟩ := nd_form hnd3
          have U := Lib.hid (bal (bal (Below.refl _ w3) (.cells #[.int .i64 c3, .int .i64 n3', .bool k3, .slice a3 m3' d3, .slice ka3 kn3 kc3] 26)) (.cells #[.int .i64 0, .int .i64 0] 29))
          have ND3 := Lib.hid ((ND2.out.below q).below U.out)
          have NM3 := Lib.hid (hnd3.below U.out)
          have N3 := Lib.hid (N2.out.below q N2.out.lt)
          have N3' := Lib.hid ((N2.out.below q N2.out.lt).below U.out (N2.out.below q N2.out.lt).lt)
          have M3 := Lib.hid ((Blk.new w3 26 #[.int .i64 c3, .int .i64 n3', .bool k3, .slice a3 m3' d3, .slice ka3 kn3 kc3]).alloc (.cells #[.int .i64 0, .int .i64 0] 29))
          have E3 : Hid (Blk ((w3.alloc (.cells #[.int .i64 c3, .int .i64 n3', .bool k3, .slice a3 m3' d3, .slice ka3 kn3 kc3] 26)).alloc (.cells #[.int .i64 0, .int .i64 0] 29)) (w3.heap.size + 1) 29 #[.int .i64 0, .int .i64 0]) := by
            have := Blk.new (w3.alloc (.cells #[.int .i64 c3, .int .i64 n3', .bool k3, .slice a3 m3' d3, .slice ka3 kn3 kc3] 26)) 29 #[.int .i64 0, .int .i64 0]
            show Blk _ _ _ _
            simpa using this
          have X3 := Lib.hid ((X2.out.below q).below U.out)
          have Q3 := Lib.hid (bthen (bthen Q2.out q) U.out)
          have HE3 := Lib.hid (HE.out _ _ _ ND3.out)
          obtain ⟨n0', n1', n2, n3, n4, nl⟩ := five N3.out
          clear q hnd3 ND2 N2 Q2 X2 HPX HE U
          go_wp2_with fail
          refine HE3.out.mono ?_
          rintro e w4 ⟨a4, c4, rfl, ho4, q⟩
          have ND4 := Lib.hid (ND3.out.below q)
          have NM4 := Lib.hid (NM3.out.below q)
          have N4 := Lib.hid (N3'.out.below q N3'.out.lt)
          have M4 := Lib.hid (M3.out.below q M3.out.lt)
          have E4 := Lib.hid (E3.out.below q E3.out.lt)
          have X4 := Lib.hid (X3.out.below q)
          have Y4 := Lib.hid ho4.bs
          have Q4 := Lib.hid (bthen Q3.out q)
          clear q ho4 ND3 N3 N3' E3 Q3 HE3 n0' n1' n2 n3 n4 nl NM3 M3 X3
          obtain ⟨n0', n1', n2, n3, n4, nl⟩ := five N4.out
          obtain ⟨p0, p1, p2, p3, p4, pl⟩ := five M4.out
          have e0 := E4.out.cell 0
          have e1 := E4.out.cell 1
          have el := E4.out.lt
          simp only [List.getElem?_toArray, List.getElem?_cons_zero, List.getElem?_cons_succ] at e0 e1
          have HNN := Lib.hid (HN.out _ _ _ _ _ NM4.out ND4.out)
          go_wp2_with fail
          refine HNN.out.mono ?_
          rintro e w5 ⟨rfl, q⟩
          have Q5 := Lib.hid (bthen Q4.out q)
          have HB := Lib.hid (bytes_any (Y4.out.below q) (X4.out.below q))
          rw [eqB_self] at HB
          clear q
          go_wp2_with fail
          refine HB.out.mono ?_
          rintro e w6 ⟨rfl, rfl⟩
          go_wp2_with fail
          go_ret
          exact ⟨rfl, Q5.out⟩
  · have h0i : (100 : Int) < n0 := by omega
    clear b0 HB0 hlen
    go_enter Try.func6, Try.ntmps6
    go_wp2_with fail
    refine (HA.out _).mono ?_
    rintro e w1 ⟨rfl, q1⟩
    have Q1 := Lib.hid q1
    clear q1
    go_wp2_with fail
    refine (HA.out _).mono ?_
    rintro e w2 ⟨rfl, q2⟩
    go_wp2_with fail
    go_ret
    exact ⟨rfl, bthen Q1.out q2⟩
end Go.Proofs.Ytgccjdhkpgmnoaa.treeDepths
