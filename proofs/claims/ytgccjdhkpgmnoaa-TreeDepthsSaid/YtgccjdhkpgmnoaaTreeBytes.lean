/-
  Contracts of the reference's Put, Bytes and Encode.
-/
import Derived.Test.YtgccjdhkpgmnoaaTreeValid
import Derived.Test.YtgccjdhkpgmnoaaLength
import Derived.Test.YtgccjdhkpgmnoaaLit
import Derived.Test.YtgccjdhkpgmnoaaAppend
namespace Go.Proofs.Ytgccjdhkpgmnoaa
open Go.RowKit

set_option maxHeartbeats 1000000 in
theorem put_any {x : UInt8} {w : World} {a : Option Addr} {n c : Nat} {l : List UInt8} (hx : Bs w a n c l) (hz : n ≤ 1000000) :
    Calls Try.prog 36 #[.int .u8 x.toNat, .slice a n c] w fun e w' => ∃ a' c', e = .returned (.slice a' (1 + ((lenOct n).length + n)) c') ∧ Own w' w.heap.size 5 a' (1 + ((lenOct n).length + n)) c' (([x] ++ lenOct n) ++ l) ∧ Below w.heap.size w w' := by
  obtain ⟨i0, hi, hz0, hz1, hz2⟩ := info_parts info_u8
  have HL := Lib.hid (fun w => ref_length_ok (n := n) (by omega) w)
  have HX := Lib.hid hx
  have hb := lenOct_bd (n := n) (by omega)
  generalize lenOct n = o at *
  clear hx
  go_enter Try.func36, Try.ntmps36
  go_wp2_with fail
  refine (HL.out _).mono ?_
  rintro e w1 ⟨a1, c1, rfl, ho, q⟩
  have O1 := Lib.hid ho.bs
  have X1 := Lib.hid (HX.out.below q)
  have B1 := Lib.hid q
  have hbw := q.size
  have hl1 : Hid (#[Value.int .u8 x.toNat].toList = cellsOf [x]) := rfl
  clear ho q HL
  go_wp2_with (at_builtin; go_must (refine wpList_app _ rfl _ _ 22 rfl w.heap.size 5 i0 Try.underlying22 hi hz0 hz1 hz2 (some ⟨w1.heap.size, 0, none⟩) 1 1 [x] rfl (own_lit _ _ _ 1 hl1.out rfl (by decide) hbw) a1 o.length c1 o rfl (O1.out.alloc _) ?c1 ?c2 ?_))
  case c1 => omega
  case c2 => simp; omega
  intro a2 c2 w2 ho2 hg2
  have O2 := Lib.hid ho2
  have B2 := Lib.hid ((bal B1.out _).grown hg2 (by simp; omega) (fun k hk => by simp [Value.ownBlock] at hk; omega))
  have X2 := Lib.hid (HX.out.below B2.out)
  have hbw2 := B2.out.size
  clear ho2 hg2 X1 O1
  go_wp2_with (at_builtin; go_must (refine wpList_app _ rfl _ _ 22 rfl w.heap.size 5 i0 Try.underlying22 hi hz0 hz1 hz2 a2 (1 + o.length) c2 _ rfl O2.out a n c l rfl X2.out ?q1 ?q2 ?_))
  case q1 => omega
  case q2 => exact hbw2
  intro a3 c3 w3 ho3 hg3
  have O3 := Lib.hid ho3
  have B3 := Lib.hid (B2.out.trans (app_below O2.out hg3 (Nat.le_refl _) hbw2))
  clear ho3 hg3
  go_wp2
  go_ret
  exact ⟨a3, c3, by rw [← Nat.add_assoc]; rfl, by have := O3.out; rw [Nat.add_assoc] at this; exact this, B3.out⟩

theorem encTs_take {ts : List Tree} {i : Nat} (h : i < ts.length) : encTs (ts.take (i + 1)) = encTs (ts.take i) ++ encT ts[i] := by
  rw [List.take_succ_eq_append_getElem h, encTs_append, encTs_cons, encTs_nil, List.append_nil]
theorem okN_of_ok {c n : Int} {k : Bool} {l : List UInt8} {ks : List Tree} (h : okT (.node c n k l ks) = true) : (0 ≤ c ∧ c ≤ 3 ∧ 0 ≤ n ∧ n ≤ 30 ∧ (k = true → l = []) ∧ (k = false → ks = [])) ∧ okTs ks = true := by
  rw [okT, Bool.and_eq_true] at h
  exact ⟨okN_iff.1 h.1, h.2⟩

set_option maxHeartbeats 1000000 in
theorem ref_bytes_any (K : Nat) : ∀ (t : Tree) (w : World) (R : Nat → Prop) (cs : List Value), sizT t ≤ K → K ≤ 100000 → okT t = true → NdCs w R cs t →
    Calls Try.prog 25 #[.agg cs.toArray] w fun e w' => ∃ a' c', e = .returned (.slice a' (encT t).length c') ∧ Own w' w.heap.size 5 a' (encT t).length c' (encT t) ∧ Below w.heap.size w w' := by
  induction K with
  | zero => intro t w R cs h; have := sizT_pos t; omega
  | succ K ih =>
    intro t w R cs hs hK hok hN
    obtain ⟨i0, hi, hz0, hz1, hz2⟩ := info_parts info_u8
    cases t with
    | node c n k l ks =>
      obtain ⟨a, m, d, ka, kn, kc, rfl, hx, hk, hll, hkl, hmm, hkn, hkc⟩ := hN.parts
      obtain ⟨⟨c0, c3, n0, n30, _, _⟩, hoks⟩ := okN_of_ok hok
      obtain ⟨c', rfl⟩ : ∃ c' : Nat, c = c' := ⟨c.toNat, by omega⟩
      obtain ⟨n', rfl⟩ : ∃ n' : Nat, n = n' := ⟨n.toNat, by omega⟩
      have hc3 : c' ≤ 3 := by omega
      have hn30 : n' ≤ 30 := by omega
      have H := Lib.hid (fun w => ref_identifier_ok hc3 hn30 k w)
      have HX := Lib.hid hx.1
      have HK := Lib.hid hk
      have IH := Lib.hid (fun t w cs hs ho (h : NdCs w R cs t) => ih t w R cs hs (by omega) ho h)
      have HL := Lib.hid hkl
      have HO := Lib.hid (fun i (h : i < ks.length) => okTs_at ks i h hoks)
      have HS : Hid (sizTs ks ≤ K) := by show _ ≤ _; unfold sizT at hs; omega
      have HSB : Hid (∀ j, l.length + (encTs (ks.take j)).length ≤ 700000) := fun j => by
        have h1 := sizTs_take_le ks j
        have h2 := encTs_size (ks.take j) (by have := HS.out; omega)
        unfold sizT at hs
        have := HS.out
        omega
      have HE : Hid (encT (.node c' n' k l ks) = [idByte c' n' k] ++ (lenOct (l ++ encTs ks).length ++ (l ++ encTs ks))) := by show _ = _; rw [encT]; unfold encB; rfl
      have HEl : Hid ((encT (.node c' n' k l ks)).length = 1 + ((lenOct (l ++ encTs ks).length).length + (l ++ encTs ks).length)) := by show _ = _; rw [encT]; exact encB_len _ _ _ _
      rw [HEl.out, HE.out]
      have hm2 : (m : Int) ≤ 700000 := by have := HSB.out 0; omega
      have hkn2 : (kn : Int) ≤ 1000000 := by have := len_sizTs ks; unfold sizT at hs; omega
      clear hN hk hkl ih hs hx hok hoks HE HEl c0 c3 n0 n30
      generalize idByte c' n' k = x at *
      go_enter Try.func25, Try.ntmps25
      go_wp2_with fail
      refine (H.out _).mono ?_
      rintro e w2 ⟨rfl, rfl⟩
      clear H
      obtain ⟨W1, hW1⟩ : ∃ W1, Hid (w.alloc (Obj.cells #[.int .i64 c', .int .i64 n', .bool k, .slice a m d, .slice ka kn kc] 26) = W1) := ⟨_, rfl⟩
      have B1 : Hid (Blk W1 w.heap.size 26 #[.int .i64 c', .int .i64 n', .bool k, .slice a m d, .slice ka kn kc]) := by rw [← hW1.out]; exact Blk.new _ _ _
      have Q1 : Hid (Below w.heap.size w W1) := by rw [← hW1.out]; exact bal (Below.refl _ _) _
      have hs1 : W1.heap.size = w.heap.size + 1 := by rw [← hW1.out]; simp
      rw [hW1.out]
      clear hW1
      obtain ⟨z0, z1, z2, z3, z4, zl⟩ := five B1.out
      have OM : Hid (Own (W1.alloc (Obj.cells #[] 5)) (w.heap.size + 1) 5 (some ⟨w.heap.size + 1, 0, none⟩) 0 0 []) := by rw [← hs1]; exact own_made W1 _
      have X1 := Lib.hid ((HX.out.below Q1.out).alloc (Obj.cells #[] 5))
      go_wp2_with (at_builtin; go_must (refine wpList_app _ rfl _ _ 22 rfl (w.heap.size + 1) 5 i0 Try.underlying22 hi hz0 hz1 hz2 (some ⟨w.heap.size + 1, 0, none⟩) 0 0 [] rfl OM.out a m d l rfl X1.out ?c1 ?c2 ?_))
      case c1 => omega
      case c2 => simp; omega
      intro a2 c2 w2 ho2 hg2
      have D2 : Hid (Below W1.heap.size W1 w2) := (bal (Below.refl _ _) _).trans (app_below OM.out hg2 (by omega) (by simp))
      have B2 := Lib.hid (B1.out.below D2.out zl)
      have Q2 := Lib.hid (bthen Q1.out D2.out)
      have O2 := Lib.hid ho2
      have hs2 : w.heap.size + 1 ≤ w2.heap.size := by have := D2.out.size; omega
      clear ho2 hg2 X1 D2 B1 Q1 z0 z1 z2 z3 z4 zl OM
      go_wp2_with fail
      go_loopw [5, 6] (fun s i wr => ∃ j : Nat, ∃ a3 c3, j ≤ kn ∧ i = .int .i64 j ∧ s = .slice a3 (l ++ encTs (ks.take j)).length c3 ∧ Own wr (w.heap.size + 1) 5 a3 (l ++ encTs (ks.take j)).length c3 (l ++ encTs (ks.take j)) ∧ w.heap.size + 1 ≤ wr.heap.size ∧
        Blk wr w.heap.size 26 #[.int .i64 c', .int .i64 n', .bool k, .slice a m d, .slice ka kn kc] ∧ Below w.heap.size w wr) (fun _ i _ => kn - (intOf i).toNat)
      case atStart =>
        have O2' := O2.out
        exact ⟨0, a2, c2, Nat.zero_le _, rfl, by rw [List.take_zero, encTs_nil, List.append_nil, hll], by rw [List.take_zero, encTs_nil, List.append_nil, hll]; exact O2', hs2, B2.out, Q2.out⟩
      case round =>
        obtain ⟨j, a3, c3, hj, rfl, rfl, ho, hsw, hb, hbel⟩ := hrel
        have O := Lib.hid ho
        have B := Lib.hid hb
        have Q := Lib.hid hbel
        obtain ⟨z0, z1, z2, z3, z4, zl⟩ := five hb
        clear hb hbel ho O2 B2 Q2 hs2
        have hbd := HSB.out j
        obtain ⟨V, hV⟩ : ∃ V, Hid (l ++ encTs (ks.take j) = V) := ⟨_, rfl⟩
        have hVl : V.length ≤ 700000 := by rw [← hV.out, List.length_append]; exact hbd
        rw [hV.out] at O ⊢
        obtain ⟨VL, hVL⟩ : ∃ VL, Hid (V.length = VL) := ⟨_, rfl⟩
        rw [hVL.out] at O hVl ⊢
        clear hbd
        by_cases hlt : j < kn
        · obtain ⟨kb, ko, hl, rfl, hkb, c'', n'', k'', a', m', d', ka', kn', kc', y0, y1, y2, y3, y4, hn⟩ := (HK.out.below Q.out).kid hlt
          have hT := Lib.hid (encTs_take hl)
          have hsz := sizTs_at ks j hl
          have HI := Lib.hid (IH.out _ _ _ (by have := HS.out; omega) (HO.out j hl) hn)
          have hE1 := HSB.out (j + 1)
          have hE2 : VL + (encT ks[j]).length ≤ 700000 := by
            rw [hT.out, List.length_append] at hE1
            have h2 := hV.out
            have h3 := hVL.out
            rw [← h2, List.length_append] at h3
            omega
          generalize encT ks[j] = Y at *
          have hlt' : (j : Int) < kn := by omega
          have hj0 : (0 : Int) ≤ j := by omega
          clear hsz hn hE1
          go_wp2_with fail
          refine HI.out.mono ?_
          rintro e w3 ⟨a4, c4, rfl, ho4, q⟩
          have O4 := Lib.hid ho4.bs
          have O3 := Lib.hid (O.out.below q)
          have B3 := Lib.hid (B.out.below q B.out.lt)
          have Q3 := Lib.hid (bthen Q.out q)
          have hs3 : w.heap.size + 1 ≤ w3.heap.size := by have := q.size; omega
          clear ho4 q HI
          go_wp2_with (at_builtin; go_must (refine wpList_app _ rfl _ _ 22 rfl (w.heap.size + 1) 5 i0 Try.underlying22 hi hz0 hz1 hz2 a3 VL c3 V rfl O3.out a4 Y.length c4 Y rfl O4.out ?d1 ?d2 ?_))
          case d1 => omega
          case d2 => exact hs3
          intro a5 c5 w5 ho5 hg5
          have D5 : Hid (Below (w.heap.size + 1) w3 w5) := app_below O3.out hg5 (Nat.le_refl _) hs3
          have O5 := Lib.hid ho5
          have B5 := Lib.hid (B3.out.below D5.out (by omega))
          have Q5 : Hid (Below w.heap.size w w5) := Q3.out.trans (D5.out.mono (by omega))
          have hs5 : w.heap.size + 1 ≤ w5.heap.size := by have := D5.out.size; omega
          clear ho5 hg5
          go_wp2_with fail
          go_roundw
          case rel =>
            have hVY : l ++ encTs (ks.take (j + 1)) = V ++ Y := by rw [hT.out, ← List.append_assoc, hV.out]
            exact ⟨j + 1, a5, c5, by omega, by go_num, by rw [hVY, List.length_append, hVL.out], by rw [hVY, List.length_append, hVL.out]; exact O5.out, hs5, B5.out, Q5.out⟩
          case measure => simp [intOf]; omega
        · have hje : j = kn := by omega
          subst hje
          have hVe : Hid (l ++ encTs ks = V) := by
            show _ = _
            rw [← hV.out, List.take_of_length_le (by have := HL.out; omega)]
          have HP := Lib.hid (put_any (x := x) O.out.bs (by omega))
          go_wp2_with fail
          refine HP.out.mono ?_
          rintro e w3 ⟨a4, c4, rfl, ho4, q⟩
          go_wp2_with fail
          go_ret
          rw [hVe.out, hVL.out]
          exact ⟨a4, c4, rfl, by rw [List.append_assoc] at ho4; exact ho4.more Q.out.size, bthen Q.out q⟩

theorem ref_encode_bad {t : Tree} {w : World} {R : Nat → Prop} {cs : List Value} (hs : sizT t ≤ 100000) (hv : (okT t && decide (depT t ≤ 16)) = false) (hN : NdCs w R cs t) :
    Calls Try.prog 17 #[.agg cs.toArray] w fun e w' => e = .returned (.tuple #[.slice none 0 0, .int .i64 8]) ∧ Below w.heap.size w w' := by
  have H1 := Lib.hid (fun w' (h : Below w.heap.size w w') => ref_valid_any (w := w') (by omega) (hN.below h))
  rw [hv] at H1
  cases t with
  | node c n k l ks =>
    obtain ⟨a, m, d, ka, kn, kc, rfl, _⟩ := hN.parts
    clear hN hv
    go_enter Try.func17, Try.ntmps17
    go_wp2_with fail
    refine (H1.out _ (bal (Below.refl _ w) _)).mono ?_
    rintro e w2 ⟨rfl, q⟩
    have Q2 := Lib.hid (bthen (bal (Below.refl _ w) _) q)
    clear q H1
    go_wp2_with fail
    go_ret2
    exact ⟨rfl, Q2.out⟩
theorem ref_encode_good {t : Tree} {w : World} {R : Nat → Prop} {cs : List Value} (hs : sizT t ≤ 100000) (hv : (okT t && decide (depT t ≤ 16)) = true) (hN : NdCs w R cs t) :
    Calls Try.prog 17 #[.agg cs.toArray] w fun e w' => ∃ a' c', e = .returned (.tuple #[.slice a' (encT t).length c', .int .i64 0]) ∧ Own w' w.heap.size 5 a' (encT t).length c' (encT t) ∧ Below w.heap.size w w' := by
  have H1 := Lib.hid (fun w' (h : Below w.heap.size w w') => ref_valid_any (w := w') (by omega) (hN.below h))
  rw [hv] at H1
  rw [Bool.and_eq_true] at hv
  have H2 := Lib.hid (fun w' (h : Below w.heap.size w w') => ref_bytes_any _ t w' R cs (Nat.le_refl _) hs hv.1 (hN.below h))
  cases t with
  | node c n k l ks =>
    obtain ⟨a, m, d, ka, kn, kc, rfl, _⟩ := hN.parts
    clear hN hv
    generalize encT (.node c n k l ks) = Y at *
    go_enter Try.func17, Try.ntmps17
    go_wp2_with fail
    refine (H1.out _ (bal (Below.refl _ w) _)).mono ?_
    rintro e w2 ⟨rfl, q⟩
    have Q2 := Lib.hid (bthen (bal (Below.refl _ w) _) q)
    have B2 := Lib.hid ((Blk.new w 26 #[.int .i64 c, .int .i64 n, .bool k, .slice a m d, .slice ka kn kc]).below q (by simp))
    obtain ⟨z0, z1, z2, z3, z4, zl⟩ := five B2.out
    clear q H1
    go_wp2_with fail
    refine (H2.out _ Q2.out).mono ?_
    rintro e w3 ⟨a3, c3, rfl, ho, q⟩
    go_wp2_with fail
    go_ret2
    exact ⟨a3, c3, rfl, ho.more Q2.out.size, bthen Q2.out q⟩
end Go.Proofs.Ytgccjdhkpgmnoaa
