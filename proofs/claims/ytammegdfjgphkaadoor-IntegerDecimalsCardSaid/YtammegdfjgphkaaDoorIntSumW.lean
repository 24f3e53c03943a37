/-
  Contracts of the reference's plus and sum.
-/
import Derived.Test.YtammegdfjgphkaaDoorIntUns
import Derived.Test.YtammegdfjgphkaaDoorIntSumMath
namespace Go.Proofs.YtammegdfjgphkaaDoor
open Go.RowKit

theorem take_split {l : List UInt8} {j : Nat} (h : j < l.length) (tl : List UInt8) : l.take (j + 1) ++ tl = l.take j ++ l[j] :: tl ∧ (l.take j).length = j := by
  refine ⟨?_, by simp; omega⟩
  rw [List.take_succ_eq_append_getElem h, List.append_assoc]
  rfl

set_option maxRecDepth 100000 in
set_option maxHeartbeats 2000000 in
theorem plus_any {w : World} {a : Option Addr} {n c : Nat} {l : List UInt8} (h : Bs w a n c l) {z : Nat} (hz9 : z ≤ 9) (hz : n ≤ 100000) :
    Calls Tryd.prog 51 #[.slice a n c, .int .i64 z] w fun e w' => ∃ a' c' r, e = .returned (.slice a' r.length c') ∧ Bs w' a' r.length c' r ∧ Mine w' w.heap.size a' ∧ bnum r = bnum l + z ∧ n ≤ r.length ∧ r.length ≤ n + 1 ∧ (r.length = n ∨ 256 ^ n ≤ bnum r) ∧ Below w.heap.size w w' := by
  obtain ⟨i0, hi, hz0, hz1, hz2⟩ := info_parts info_u8
  have HX := Lib.hid h
  have HL := Lib.hid h.len
  clear h
  go_enter Tryd.func51, Tryd.ntmps51
  go_wp2_with (at_builtin; go_must (refine wpList_app _ rfl _ _ 22 rfl w.heap.size 5 i0 Tryd.underlying22 hi hz0 hz1 hz2 (some ⟨w.heap.size, 0, none⟩) 0 0 [] rfl (own_made w _) a n c l rfl (HX.out.alloc _) ?c1 ?c2 ?_))
  case c1 => omega
  case c2 => simp
  intro a1 c1 w1 ho1 hg1
  have HB : Hid (Below w.heap.size w w1) := (bal (Below.refl _ w) _).trans (app_below (own_made w _) hg1 (Nat.le_refl _) (by simp))
  have HO : Hid (Own w1 w.heap.size 5 a1 n c1 l) := by show Own _ _ _ _ _ _ _; simpa using ho1
  clear ho1 hg1
  go_wp2
  go_loopw [1, 6] (fun v i wr => ∃ k N : Nat, ∃ tl, k ≤ n ∧ i = .int .i64 ((k : Int) - 1) ∧ v = .int .i64 N ∧ Own wr w.heap.size 5 a1 n c1 (l.take k ++ tl) ∧ tl.length = n - k ∧ bnum tl + N * 256 ^ tl.length = bnum (l.drop k) + z ∧ N ≤ 9 ∧ Below w.heap.size w wr) (fun _ i _ => (intOf i + 1).toNat)
  case atStart => exact ⟨n, z, [], Nat.le_refl _, rfl, rfl, by rw [List.take_of_length_le (by have := HL.out; omega), List.append_nil]; exact HO.out, by simp, by rw [List.drop_of_length_le (by have := HL.out; omega)]; simp [bnum_nil], hz9, HB.out⟩
  case round =>
    obtain ⟨k, N, tl, hk, rfl, rfl, ho, htl, hv, hN, hb⟩ := hrel
    have HB2 := Lib.hid hb
    have HV := Lib.hid hv
    have HT := Lib.hid htl
    clear hb hv htl
    cases k with
    | succ j =>
      have hjl : j < l.length := by have := HL.out; omega
      obtain ⟨es, eq⟩ := take_split hjl tl
      rw [es] at ho
      obtain ⟨g, rfl, hg1, hg2⟩ := ho.pos (by omega)
      have hc := ho.cell (j := j) (by simp; omega)
      have hgm := get_mid (l.take j) tl l[j] (by simp)
      have hc2 : wr.cell? ⟨g, j, none⟩ = some (.int .u8 l[j].toNat) := by
        rw [hc]
        have e3 : (l.take j ++ l[j] :: tl)[j]? = some l[j] := by
          rw [List.getElem?_append_right (by omega), eq, Nat.sub_self]
          rfl
        rw [List.getElem?_eq_getElem (by simp; omega)] at e3
        rw [Option.some.inj e3]
      have hf := ho.frozen j
      have HS := fun y => Lib.hid (ho.stored j y)
      have HSM := Lib.hid (fun y => set_mid (l.take j) tl l[j] y)
      rw [eq] at HSM
      have HPS := Lib.hid (fun y hy => plus_step (y := y) hjl (by have := HT.out; have := HL.out; omega) HV.out hy)
      generalize l[j] = x at *
      have hxb := byte_bd x
      have hyv : (UInt8.ofNat ((N + x.toNat) % 256)).toNat = (N + x.toNat) % 256 := by rw [UInt8.toNat_ofNat']; omega
      have HST := HS (UInt8.ofNat ((N + x.toNat) % 256))
      rw [HSM.out, hyv] at HST
      have HPN := Lib.hid (HPS.out _ hyv)
      have hj0 : (0 : Int) ≤ j := by omega
      have hjn : (j : Int) < n := by omega
      have hcast : ((j + 1 : Nat) : Int) - 1 = j := by omega
      have HG := Lib.hid hg1
      have HYV := Lib.hid hyv
      rw [hcast]
      clear ho hc HS HPS HSM hgm hyv hjl es eq hcast
      go_wp2
      refine ⟨⟨j, (N + x.toNat) / 256, UInt8.ofNat ((N + x.toNat) % 256) :: tl, by omega, rfl, by rw [Int.natCast_ediv, Int.natCast_add]; rfl, ?_, by simp only [List.length_cons]; have := HT.out; omega, HPN.out, by omega, HB2.out.setCell (p := ⟨g, j, none⟩) HG.out _⟩, by simp [intOf]⟩
      have e := HST.out
      rw [Int.natCast_emod, Int.natCast_add, List.append_assoc] at e
      exact e
    | zero =>
      have HO2 := Lib.hid ho
      rw [List.take_zero, List.nil_append] at HO2
      have HT2 : Hid (tl.length = n) := by show _ = _; have := HT.out; omega
      have HV2 := Lib.hid HV.out
      rw [List.drop_zero] at HV2
      rw [show (((0 : Nat) : Int) - 1) = -1 from rfl]
      clear ho
      by_cases hN0 : N = 0
      · subst hN0
        go_wp2
        go_ret
        have O5 := HO2.out
        rw [← HT2.out] at O5 ⊢
        exact ⟨a1, c1, tl, rfl, O5.bs, O5.mine, by have := HV2.out; omega, Nat.le_refl _, by omega, .inl rfl, HB2.out⟩
      · have hN1 : (0 : Int) < N := by omega
        have hsz := HB2.out.size
        have hNb : (UInt8.ofNat N).toNat = N := by rw [UInt8.toNat_ofNat']; omega
        have hNm : (N : Int) % 256 = N := by omega
        have e1 : (.int .u8 (N : Int) : Value) = .int .u8 (UInt8.ofNat N).toNat := by rw [hNb]
        go_wp2_with (at_builtin; go_must (refine wpList_app _ rfl _ _ 22 rfl w.heap.size 5 i0 Tryd.underlying22 hi hz0 hz1 hz2 (some ⟨wr.heap.size, 0, none⟩) 1 1 [UInt8.ofNat N] rfl (own_lit _ _ [UInt8.ofNat N] 1 rfl rfl (by decide) hsz) a1 n c1 tl rfl (HO2.out.bs.alloc _) ?c3 ?c4 ?_))
        case c3 => omega
        case c4 => simp; omega
        intro a2 c2 w2 ho2 hg2
        have HB3 : Hid (Below w.heap.size w w2) := (bal HB2.out _).trans (app_below (own_lit (w := wr) (B := w.heap.size) 5 #[.int .u8 (UInt8.ofNat N).toNat] [UInt8.ofNat N] 1 rfl rfl (by decide) hsz) hg2 (Nat.le_refl _) (by simp; omega))
        have HO3 := Lib.hid ho2
        clear ho2 hg2
        go_wp2
        go_ret
        have hlen : ([UInt8.ofNat N] ++ tl).length = 1 + n := by have := HT2.out; simp; omega
        have O4 := HO3.out
        rw [← hlen] at O4 ⊢
        have hbn : bnum ([UInt8.ofNat N] ++ tl) = bnum l + z := by
          rw [List.singleton_append, bnum_cons, hNb]
          have := HV2.out
          omega
        refine ⟨a2, c2, [UInt8.ofNat N] ++ tl, rfl, O4.bs, O4.mine, hbn, by omega, by omega, .inr ?_, HB3.out⟩
        rw [hbn, ← HV2.out, HT2.out]
        have := Nat.mul_le_mul_right (256 ^ n) (show 1 ≤ N by omega)
        omega

theorem lastAt_in {b : List UInt8} {i : Nat} (h : i + 1 ≤ b.length) : ∃ hk : b.length - (i + 1) < b.length, lastAt b (i + 1) = (b[b.length - (i + 1)]).toNat := by
  have hk : b.length - (i + 1) < b.length := by omega
  refine ⟨hk, ?_⟩
  unfold lastAt
  rw [if_pos h]
  simp [hk]
theorem lastAt_out {b : List UInt8} {i : Nat} (h : ¬ i + 1 ≤ b.length) : lastAt b (i + 1) = 0 := by
  unfold lastAt
  rw [if_neg h]

set_option maxRecDepth 100000 in
set_option maxHeartbeats 4000000 in
theorem sum_any {w : World} {a b : Option Addr} {n c m d : Nat} {l r : List UInt8} (h : Bs w a n c l) (k : Bs w b m d r) (hmn : m ≤ n) (hz : n ≤ 100000) :
    Calls Tryd.prog 50 #[.slice a n c, .slice b m d] w fun e w' => ∃ a' c' o, e = .returned (.slice a' o.length c') ∧ Bs w' a' o.length c' o ∧ bnum o = bnum l + bnum r ∧ m ≤ o.length ∧ o.length ≤ n + 1 ∧ Below w.heap.size w w' := by
  obtain ⟨i0, hi, hz0, hz1, hz2⟩ := info_parts info_u8
  have HX := Lib.hid h
  have HY := Lib.hid k
  have HL := Lib.hid h.len
  have HR := Lib.hid k.len
  have hm0 : (m : Int) ≤ 100000 := by omega
  clear h k
  obtain ⟨M, hM⟩ : ∃ M, n + 1 = M := ⟨_, rfl⟩
  go_enter Tryd.func50, Tryd.ntmps50
  go_wp2_with (at_builtin; go_must (refine wpList_app _ rfl _ _ 22 rfl w.heap.size 5 i0 Tryd.underlying22 hi hz0 hz1 hz2 (some ⟨w.heap.size, 0, none⟩) 1 1 [0] rfl (own_lit _ _ [0] 1 rfl rfl (by decide) (Nat.le_refl _)) a n c l rfl (HX.out.alloc _) ?c1 ?c2 ?_))
  case c1 => omega
  case c2 => simp
  intro a1 c1 w1 ho1 hg1
  have HB : Hid (Below w.heap.size w w1) := (bal (Below.refl _ w) _).trans (app_below (own_lit (w := w) (B := w.heap.size) 5 #[.int .u8 0] [0] 1 rfl rfl (by decide) (Nat.le_refl _)) hg1 (Nat.le_refl _) (by simp))
  rw [show 1 + n = M from by omega] at ho1 ⊢
  have HO : Hid (Own w1 w.heap.size 5 a1 M c1 (0 :: l)) := ho1
  have hol : Hid ((0 :: l).length = M) := by show _ = _; rw [List.length_cons, HL.out]; exact hM
  obtain ⟨g, rfl, hg3, _⟩ := ho1.pos (by omega)
  have HG := Lib.hid hg3
  have HVF : Hid (bnum (0 :: l) = bnum l) := bnum_zero l
  have hM1 : (1 : Int) + n = M := by omega
  have hM2 : (M : Int) ≤ 100001 := by omega
  generalize (0 : UInt8) :: l = o at *
  clear ho1 hg1 hg3
  go_wp2
  go_loopw [6, 7] (fun v i wr => ∃ q N : Nat, ∃ tl, q ≤ M ∧ i = .int .i64 ((q : Int) + 1) ∧ v = .int .i64 N ∧ Own wr w.heap.size 5 (some ⟨g, 0, none⟩) M c1 (o.take (M - q) ++ tl) ∧ tl.length = q ∧ bnum tl + N * 256 ^ tl.length = bnum (o.drop (M - q)) + bnum (lastN r q) ∧ N ≤ 1 ∧ Below w.heap.size w wr) (fun _ i _ => M + 1 - (intOf i).toNat)
  case atStart => exact ⟨0, 0, [], Nat.zero_le _, rfl, rfl, by rw [Nat.sub_zero, List.take_of_length_le (by have := hol.out; omega), List.append_nil]; exact HO.out, rfl, by rw [Nat.sub_zero, List.drop_of_length_le (by have := hol.out; omega), lastN_zero]; simp [bnum_nil], by omega, HB.out⟩
  case round =>
    obtain ⟨q, N, tl, hq, rfl, rfl, ho, htl, hv, hN, hb⟩ := hrel
    have HB2 := Lib.hid hb
    have HV := Lib.hid hv
    have HT := Lib.hid htl
    have hYb := HY.out.below hb
    clear hb hv htl
    by_cases hlt : q < M
    · obtain ⟨j, hj⟩ : ∃ j, j + q + 1 = M := ⟨M - 1 - q, by omega⟩
      have hj2 : M - q = j + 1 := by omega
      have hj3 : M - (q + 1) = j := by omega
      rw [hj2] at ho HV
      have hjl : j < o.length := by have := hol.out; omega
      obtain ⟨es, eq⟩ := take_split hjl tl
      rw [es] at ho
      have hc := ho.cell (j := j) (by simp; omega)
      have hc2 : wr.cell? ⟨g, j, none⟩ = some (.int .u8 o[j].toNat) := by
        rw [hc]
        have e3 : (o.take j ++ o[j] :: tl)[j]? = some o[j] := by
          rw [List.getElem?_append_right (by omega), eq, Nat.sub_self]
          rfl
        rw [List.getElem?_eq_getElem (by simp; omega)] at e3
        rw [Option.some.inj e3]
      have hf := ho.frozen j
      have HS := fun y => Lib.hid (ho.stored j y)
      have HSM := Lib.hid (fun y => set_mid (o.take j) tl o[j] y)
      rw [eq] at HSM
      have HPS := Lib.hid (fun y hy => sum_step (b := r) (y := y) hjl (i := q) (by have := hol.out; omega) HT.out HV.out hy)
      generalize o[j] = x at *
      have hxb := byte_bd x
      have hj0 : (0 : Int) ≤ j := by omega
      have hjn : (j : Int) < M := by omega
      have hq0 : (0 : Int) ≤ q := by omega
      have hq1 : (q : Int) + 1 ≤ M := by omega
      have hjk : (M : Int) - (q + 1) = j := by omega
      obtain ⟨z, hzd⟩ : ∃ z, lastAt r (q + 1) = z := ⟨_, rfl⟩
      rw [hzd] at HPS
      clear hc
      by_cases hqm : q + 1 ≤ m
      · have hqr : q + 1 ≤ r.length := by have := HR.out; omega
        obtain ⟨hk1, hk2⟩ := lastAt_in hqr
        obtain ⟨p, hp⟩ : ∃ p, m - (q + 1) = p := ⟨_, rfl⟩
        have hpi : (m : Int) - (q + 1) = p := by omega
        obtain ⟨b2, off2, hpl, rfl, _, hcb⟩ := hYb.at_ (i := p) (by omega)
        have hrp : r[p].toNat = z := by
          rw [← hzd, hk2]
          have : r.length - (q + 1) = p := by have := HR.out; omega
          simp only [this]
        generalize r[p] = y at *
        have hyb := byte_bd y
        have hqm' : (q : Int) + 1 ≤ m := by omega
        have hp0 : (0 : Int) ≤ p := by omega
        have hpm : (p : Int) < m := by omega
        subst hrp
        have hyv : (UInt8.ofNat ((N + x.toNat + y.toNat) % 256)).toNat = (N + x.toNat + y.toNat) % 256 := by rw [UInt8.toNat_ofNat']; omega
        have HST := HS (UInt8.ofNat ((N + x.toNat + y.toNat) % 256))
        rw [HSM.out, hyv] at HST
        have HPN := Lib.hid (HPS.out _ hyv)
        clear ho HS HPS HSM hyv hjl es eq hzd hk1 hk2 hpl hqr hYb
        go_wp2
        refine ⟨⟨q + 1, (N + x.toNat + y.toNat) / 256, UInt8.ofNat ((N + x.toNat + y.toNat) % 256) :: tl, by omega, by go_num, by rw [Int.natCast_ediv, Int.natCast_add, Int.natCast_add]; rfl, ?_, by simp only [List.length_cons]; have := HT.out; omega, by rw [hj3]; exact HPN.out, by omega, HB2.out.setCell (p := ⟨g, j, none⟩) HG.out _⟩, by simp [intOf]; omega⟩
        rw [hj3]
        have e := HST.out
        rw [Int.natCast_emod, Int.natCast_add, Int.natCast_add, List.append_assoc] at e
        exact e
      · have hz0' : z = 0 := by rw [← hzd]; exact lastAt_out (by have := HR.out; omega)
        subst hz0'
        have hqm' : ¬ (q : Int) + 1 ≤ m := by omega
        have hyv : (UInt8.ofNat ((N + x.toNat + 0) % 256)).toNat = (N + x.toNat + 0) % 256 := by rw [UInt8.toNat_ofNat']; omega
        have HST := HS (UInt8.ofNat ((N + x.toNat + 0) % 256))
        rw [HSM.out, hyv] at HST
        have HPN := Lib.hid (HPS.out _ hyv)
        clear ho HS HPS HSM hyv hjl es eq hzd hYb
        go_wp2
        refine ⟨⟨q + 1, (N + x.toNat + 0) / 256, UInt8.ofNat ((N + x.toNat + 0) % 256) :: tl, by omega, by go_num, by rw [Int.natCast_ediv, Nat.add_zero, Int.natCast_add]; rfl, ?_, by simp only [List.length_cons]; have := HT.out; omega, by rw [hj3]; exact HPN.out, by omega, HB2.out.setCell (p := ⟨g, j, none⟩) HG.out _⟩, by simp [intOf]; omega⟩
        rw [hj3]
        have e := HST.out
        rw [Int.natCast_emod, Nat.add_zero, Int.natCast_add, List.append_assoc] at e
        exact e
    · obtain rfl : q = M := by omega
      have HO2 := Lib.hid ho.bs
      rw [Nat.sub_self, List.take_zero, List.nil_append] at HO2
      have HS : Hid (bnum tl = bnum l + bnum r) := by
        refine sum_end (a := l) (b := r) (N := N) (by have := HL.out; have := HR.out; omega) (by have := HT.out; have := HL.out; omega) ?_
        have e := HV.out
        rw [Nat.sub_self, List.drop_zero, HVF.out, lastN_all (by have := HR.out; omega)] at e
        exact e
      clear ho hYb
      go_wp2
      go_loop [5] (fun v => ∃ a' n' c' l', v = .slice a' n' c' ∧ Bs wr a' n' c' l' ∧ bnum l' = bnum l + bnum r ∧ m ≤ n' ∧ n' ≤ q) (fun v => lenOfV v)
      case atStart => exact ⟨_, _, _, tl, rfl, HO2.out, HS.out, by omega, Nat.le_refl _⟩
      case round =>
        obtain ⟨a', n', c', l', rfl, hbs, he, hn1, hn2⟩ := hrel
        have HE := Lib.hid he
        have HBS := Lib.hid hbs
        have HL2 := Lib.hid hbs.len
        have hcc := hbs.2.1
        have hcm := hbs.2.2.1
        unfold maxLen at hcm
        clear he hbs
        by_cases hgt : m < n'
        · have hgt' : (m : Int) < n' := by omega
          rcases l' with _ | ⟨x, r'⟩
          · have := HL2.out; simp only [List.length_nil] at this; omega
          · obtain ⟨b2, off2, _, rfl, _, hc⟩ := HBS.out.at_ (i := 0) (by omega)
            simp only [List.getElem_cons_zero, Nat.add_zero] at hc
            by_cases hx : x = 0
            · subst hx
              have e0 : (((0 : UInt8).toNat : Nat) : Int) = 0 := rfl
              rw [e0] at hc
              clear e0
              have HE2 : Hid (bnum r' = bnum l + bnum r) := by show _ = _; rw [← HE.out, bnum_zero]
              by_cases hc1 : c' = 1
              · have HD := Lib.hid (bs_drop_one HBS.out hc1)
                have hn3 : n' = 1 := by omega
                subst hc1; subst hn3
                go_wp2
                exact ⟨⟨_, _, _, r', rfl, HD.out, HE2.out, by omega, by omega⟩, by simp [lenOfV]⟩
              · have HD := Lib.hid (bs_drop_more HBS.out hc1)
                go_wp2
                exact ⟨⟨_, _, _, r', rfl, HD.out, HE2.out, by omega, by omega⟩, by simp [lenOfV]; omega⟩
            · have hx1 : ((x.toNat : Int) == 0) = false := by
                rw [beq_eq_false_iff_ne]
                intro e
                exact hx (UInt8.toNat_inj.1 (by simpa using e))
              clear hx
              go_wp2
              go_ret
              have hl2 := HL2.out
              rw [← hl2] at hn1 hn2
              have O5 := HBS.out
              rw [← hl2] at O5 ⊢
              exact ⟨_, _, _, rfl, O5, HE.out, by omega, by omega, HB2.out⟩
        · have hgt' : ¬ (m : Int) < n' := by omega
          go_wp2
          go_ret
          have hl2 := HL2.out
          rw [← hl2] at hn1 hn2
          have O5 := HBS.out
          rw [← hl2] at O5 ⊢
          exact ⟨_, _, _, rfl, O5, HE.out, by omega, by omega, HB2.out⟩
end Go.Proofs.YtammegdfjgphkaaDoor
