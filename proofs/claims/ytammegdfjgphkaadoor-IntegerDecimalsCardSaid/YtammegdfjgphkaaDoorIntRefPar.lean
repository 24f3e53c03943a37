/-
  Contract of the reference's ParseDecimal.
-/
import Derived.Test.YtammegdfjgphkaaDoorIntRefDec
import Derived.Test.YtammegdfjgphkaaDoorIntParW2
namespace Go.Proofs.YtammegdfjgphkaaDoor
open Go.RowKit

theorem r_bad {l : List UInt8} (h : ¬ (restS l).all isD = true) : pC l = 11 ∧ pL l = [] := p_none (by unfold parS; rw [if_neg (fun hh => h hh.1)])
theorem r_ok {l : List UInt8} (h : (restS l).all isD = true) (h2 : decI (numS l) = l) : pC l = 0 ∧ pL l = senc (numS l) := p_some (by unfold parS; rw [if_pos ⟨h, h2⟩])
theorem r_no {l : List UInt8} (h2 : ¬ decI (numS l) = l) : pC l = 11 ∧ pL l = [] := p_none (by unfold parS; rw [if_neg (fun hh => h2 hh.2)])
theorem bad_at {t : List UInt8} {k : Nat} (h : k < t.length) (hx : isD t[k] = false) : ¬ t.all isD = true := by
  intro hn
  rw [List.all_eq_true] at hn
  rw [hn _ (List.getElem_mem h)] at hx
  cases hx
theorem dval_take {t : List UInt8} {k : Nat} (h : k < t.length) : dval (t.take (k + 1)) = dval (t.take k) * 10 + (t[k].toNat - 48) := by
  rw [List.take_succ_eq_append_getElem h, dval_snoc]
theorem all_take {t : List UInt8} {k : Nat} (h : k < t.length) (ht : (t.take k).all isD = true) (hx : isD t[k] = true) : (t.take (k + 1)).all isD = true := by
  rw [List.take_succ_eq_append_getElem h, List.all_append, ht]
  simp [hx]
theorem decS_senc (z : Int) : decS (senc z) = decI z := by
  unfold decS
  rw [if_pos (senc_valid z), senc_val]
theorem isD_bd {x : UInt8} (h : isD x = true) : 48 ≤ x.toNat ∧ x.toNat ≤ 57 := by
  unfold isD at h
  simpa using h
/-- the opposite of a number above zero, by complement and one more -/
theorem cpl_senc {N : Nat} {r : List UInt8} (h0 : 0 < N) (hb : bnum r = bnum ((senc (N : Int)).map cplB) + 1) (hl : r.length = (senc (N : Int)).length ∨ 256 ^ (senc (N : Int)).length ≤ bnum r) : stripI r = senc (-(N : Int)) := by
  have h1 := cpl_num (senc (N : Int))
  rw [bnum_senc] at h1
  rcases hl with hl | hl
  · exact neg_senc h0 hl ⟨0, by rw [bnum_senc, hl]; omega⟩
  · omega
/-- of zero: something else, that is no notation with a hyphen -/
theorem cpl_zero {r : List UInt8} (hb : bnum r = bnum ((senc ((0 : Nat) : Int)).map cplB) + 1) (hn : r.length ≤ (senc ((0 : Nat) : Int)).length + 1) : ∃ m : Nat, stripI r = senc (m : Int) := by
  have e : senc ((0 : Nat) : Int) = [0] := by rw [senc_small (by omega)]; rfl
  rw [e] at hb hn
  have e2 : bnum ([0].map cplB) = 255 := by decide
  rw [e2] at hb
  simp only [List.length_singleton] at hn
  match r, hn with
  | [], _ => rw [bnum_nil] at hb; omega
  | [x], _ => rw [bnum_cons, bnum_nil] at hb; have := x.toNat_lt; simp at hb; omega
  | [x, y], _ =>
    simp only [bnum_cons, bnum_nil, List.length_cons, List.length_nil] at hb
    have hx := x.toNat_lt
    have hy := y.toNat_lt
    have hx1 : ¬ 128 ≤ x.toNat := by simp at hb; omega
    refine ⟨bnum [x, y], ?_⟩
    rw [stripI_eq _ (by simp)]
    congr 1
    unfold sval hiB
    rw [if_neg (by simpa using hx1)]
  | x :: y :: z :: r, hn => simp only [List.length_cons] at hn; omega
theorem decI_no_hyphen (m : Nat) (t : List UInt8) : decI (m : Int) ≠ 45 :: t := by
  intro h
  rw [decI_nat] at h
  have := (decN_ok m m (Nat.le_refl _)).2.2.2
  rw [h] at this
  simp at this

set_option maxRecDepth 100000 in
set_option maxHeartbeats 1000000 in
theorem ref_strip {w : World} {a : Option Addr} {n c : Nat} {l : List UInt8} (h : Bs w a n c l) (hr : redI l = true) : ∃ b off, a = some ⟨b, off, none⟩ ∧ Bs w (some ⟨b, off + 1, none⟩) (n - 1) (c - 1) (l.drop 1) ∧ stripI (l.drop 1) = stripI l ∧ vI l = false ∧ 1 < n ∧ ¬ c = 1 := by
  rcases l with _ | ⟨x, _ | ⟨y, r⟩⟩
  · simp [redI] at hr
  · simp [redI] at hr
  · have hl := h.len
    simp only [List.length_cons] at hl
    have hcc := h.2.1
    obtain ⟨b, off, _, rfl, _, _⟩ := h.at_ (i := 0) (by omega)
    have hc1 : ¬ c = 1 := by omega
    exact ⟨b, off, rfl, bs_drop_more h hc1, (strip_red hr).symm, by simpa [redI] using hr, by omega, hc1⟩

set_option maxRecDepth 100000 in
set_option maxHeartbeats 16000000 in
theorem ref_par_any (w : World) (l : List UInt8) (hz : l.length ≤ 200) : Calls Tryd.prog 31 #[.string ⟨l.toArray⟩] w fun e w' => ∃ a c, e = .returned (.tuple #[.slice a (pL l).length c, .int .i64 (pC l)]) ∧ Bs w' a (pL l).length c (pL l) ∧ Below w.heap.size w w' := by
  rcases hn : negS l with _ | _
  · have hrest : restS l = l := by unfold restS; rw [hn]; rfl
    have hnum : numS l = (dval l : Int) := by unfold numS; rw [hn, hrest]; rfl
    have h45 : ∀ x r, l = x :: r → ¬ x = 45 := by
      intro x r e e2
      rw [e, e2] at hn
      simp [negS] at hn
    obtain ⟨t, ht⟩ : ∃ t, l = t := ⟨_, rfl⟩
    subst ht
    have htz : l.length ≤ 200 := hz
    obtain ⟨t, ht⟩ : ∃ t, l = t := ⟨_, rfl⟩
    rw [ht] at hrest hnum h45 htz ⊢
    clear ht hn
    have HH : t.length = 0 ∨ ∃ h : 0 < t.length, t[0] ≠ 45 := by
      cases t with
      | nil => exact .inl rfl
      | cons x r => exact .inr ⟨by simp, h45 x r rfl⟩
    clear h45
    rcases HH with HH | ⟨HH, HH2⟩
    · skip
      have HPN := Lib.hid (r_bad (l := t))
      have HOK := Lib.hid (r_ok (l := t))
      have HNO := Lib.hid (r_no (l := t))
      rw [hrest] at HPN HOK
      rw [hnum] at HOK HNO
      obtain ⟨S, hS⟩ : ∃ S, t.length = S := ⟨_, rfl⟩
      have HSL := Lib.hid hS
      have hSz : S ≤ 200 := by rw [← hS]; exact htz
      have hs : (⟨(t : List UInt8).toArray⟩ : ByteArray).size = S := by rw [← hS]; rfl
      have hS0 : ¬ (0 : Int) < S := by omega
      have hS1 : S = 0 := by omega
      clear HH
      clear hrest hnum
      try clear htz
      try clear hz
      go_enter Tryd.func31, Tryd.ntmps31
      go_wp2
      have H0 := Lib.hid (bs_lit w 5 #[.int .u8 0] [0] 1 rfl rfl (by decide))
      have HB0 := Lib.hid (bal (Below.refl _ w) (.cells #[.int .u8 0] 5))
      go_loopw [5, 6] (fun v i wr => ∃ k m c' : Nat, ∃ a' : Option Addr, ∃ L, k ≤ S ∧ i = .int .i64 (k : Nat) ∧ v = .slice a' m c' ∧ Bs wr a' m c' L ∧ bnum L = dval (t.take k) ∧ (t.take k).all isD = true ∧ m ≤ 1 + 10 * k ∧ Below w.heap.size w wr) (fun _ i _ => S + 1 - (intOf i).toNat)
      case atStart => exact ⟨0, 1, 1, _, [0], by omega, rfl, rfl, H0.out, by simp [bnum_cons, bnum_nil, dval], rfl, by omega, HB0.out⟩
      case round =>
        obtain ⟨k, m, c', a', L, hk, rfl, rfl, hbs, hbn, hal, hm, hb⟩ := hrel
        have HBS := Lib.hid hbs
        have HBN := Lib.hid hbn
        have HAL := Lib.hid hal
        have HBB := Lib.hid hb
        clear hbs hbn hal hb
        by_cases hlt : k < S
        · exact absurd hlt (by omega)
        · obtain rfl : k = S := by omega
          have HA2 := Lib.hid HAL.out
          rw [List.take_of_length_le (by have := HSL.out; omega)] at HA2
          have HB3 := Lib.hid HBN.out
          rw [List.take_of_length_le (by have := HSL.out; omega)] at HB3
          have HFU := Lib.hid (ref_fromUnsigned_any HBS.out (by omega))
          rw [HB3.out] at HFU
          have hsl : (senc (dval t : Int)).length ≤ 1 + 10 * k + 1 := by
            have := senc_len_le L
            rw [HB3.out] at this
            have := HBS.out.len
            omega
          go_wp2_with (go_at_call 26; (with_reducible refine HFU.out.mono ?_); rintro e w3 ⟨a3, c3, rfl, hf1, hf2, q3⟩)
          have HDE := Lib.hid (ref_dec_any hf1 (by omega))
          rw [decS_senc] at HDE
          have HF1 := Lib.hid hf1
          clear hf1 hf2
          with_reducible refine HDE.out.mono ?_
          rintro e w4 ⟨rfl, q4⟩
          by_cases hd : decI (dval t : Int) = t
          · have HP := Lib.hid (HOK.out HA2.out hd)
            rw [hd]
            clear hd
            go_wp2
            go_ret2
            rw [HP.out.1, HP.out.2]
            exact ⟨a3, c3, rfl, HF1.out.below q4, bthen (bthen HBB.out q3) q4⟩
          · have HP := Lib.hid (HNO.out hd)
            obtain ⟨D, hD⟩ : ∃ D, decI (dval t : Int) = D := ⟨_, rfl⟩
            rw [hD] at hd ⊢
            have hne : (D == t) = false := by simpa using hd
            clear hD hd
            go_wp2
            go_ret2
            rw [HP.out.1, HP.out.2]
            exact ⟨none, 0, rfl, Bs.nil_ _, bthen (bthen HBB.out q3) q4⟩
    · skip
      have HPN := Lib.hid (r_bad (l := t))
      have HOK := Lib.hid (r_ok (l := t))
      have HNO := Lib.hid (r_no (l := t))
      rw [hrest] at HPN HOK
      rw [hnum] at HOK HNO
      obtain ⟨S, hS⟩ : ∃ S, t.length = S := ⟨_, rfl⟩
      have HSL := Lib.hid hS
      have hSz : S ≤ 200 := by rw [← hS]; exact htz
      have hs : (⟨(t : List UInt8).toArray⟩ : ByteArray).size = S := by rw [← hS]; rfl
      have hS0 : (0 : Int) < S := by omega
      obtain ⟨y, hy⟩ : ∃ y, (⟨t.toArray⟩ : ByteArray)[0]'(by rw [hs]; omega) = y := ⟨_, rfl⟩
      have hy45 : ((y.toNat : Int) == 45) = false := by
        rw [beq_eq_false_iff_ne]
        intro e
        exact HH2 (UInt8.toNat_inj.1 (by rw [show t[0] = y from hy]; show y.toNat = 45; omega))
      clear HH2
      clear hrest hnum
      try clear htz
      try clear hz
      go_enter Tryd.func31, Tryd.ntmps31
      go_wp2
      have H0 := Lib.hid (bs_lit w 5 #[.int .u8 0] [0] 1 rfl rfl (by decide))
      have HB0 := Lib.hid (bal (Below.refl _ w) (.cells #[.int .u8 0] 5))
      go_loopw [5, 6] (fun v i wr => ∃ k m c' : Nat, ∃ a' : Option Addr, ∃ L, k ≤ S ∧ i = .int .i64 (k : Nat) ∧ v = .slice a' m c' ∧ Bs wr a' m c' L ∧ bnum L = dval (t.take k) ∧ (t.take k).all isD = true ∧ m ≤ 1 + 10 * k ∧ Below w.heap.size w wr) (fun _ i _ => S + 1 - (intOf i).toNat)
      case atStart => exact ⟨0, 1, 1, _, [0], by omega, rfl, rfl, H0.out, by simp [bnum_cons, bnum_nil, dval], rfl, by omega, HB0.out⟩
      case round =>
        obtain ⟨k, m, c', a', L, hk, rfl, rfl, hbs, hbn, hal, hm, hb⟩ := hrel
        have HBS := Lib.hid hbs
        have HBN := Lib.hid hbn
        have HAL := Lib.hid hal
        have HBB := Lib.hid hb
        clear hbs hbn hal hb
        by_cases hlt : k < S
        · have hkt : k < t.length := by have := HSL.out; omega
          obtain ⟨x, hx⟩ : ∃ x, (⟨(t : List UInt8).toArray⟩ : ByteArray)[k]'(by rw [hs]; omega) = x := ⟨_, rfl⟩
          have hx2 : t[k] = x := hx
          have HBAD := Lib.hid (fun h => bad_at hkt h)
          have HDT := Lib.hid (dval_take hkt)
          have HAT := Lib.hid (fun h => all_take hkt HAL.out h)
          rw [hx2] at HBAD HDT HAT
          have h0 : (0 : Int) ≤ k := by omega
          have h1 : (k : Int) < S := by omega
          clear hx2 hkt
          by_cases hd : isD x = true
          · obtain ⟨d1, d2⟩ := isD_bd hd
            have hd1 : ¬ (x.toNat : Int) < 48 := by omega
            have hd2 : ¬ (57 : Int) < x.toNat := by omega
            have hd3 : (48 : Int) ≤ x.toNat := by omega
            have hd4 : (x.toNat : Int) ≤ 57 := by omega
            have HAT2 := Lib.hid (HAT.out hd)
            have hzc : ((x.toNat - 48 : Nat) : Int) = (x.toNat : Int) - 48 := by omega
            have hz9 : x.toNat - 48 ≤ 9 := by omega
            clear hd d1 d2
            go_wp2
            go_loopw [7, 8] (fun v i wr2 => ∃ j m2 c2 : Nat, ∃ a2 : Option Addr, ∃ X, 1 ≤ j ∧ j ≤ 10 ∧ i = .int .i64 j ∧ v = .slice a2 m2 c2 ∧ Bs wr2 a2 m2 c2 X ∧ bnum X = j * bnum L ∧ m ≤ m2 ∧ m2 + 1 ≤ m + j ∧ Below wr.heap.size wr wr2) (fun _ i _ => 10 - (intOf i).toNat)
            case atStart => exact ⟨1, m, c', a', L, by omega, by omega, rfl, rfl, HBS.out, by omega, by omega, by omega, Below.refl _ _⟩
            case round =>
              obtain ⟨j, m2, c2, a2, X, hj1, hj2, rfl, rfl, hbs, hbn, hm1, hm2, hb⟩ := hrel
              have HBN2 := Lib.hid hbn
              have HB2 := Lib.hid hb
              by_cases hj : j < 10
              · have HSU := Lib.hid (sum_any hbs (HBS.out.below hb) hm1 (by omega))
                have hj3 : (j : Int) < 10 := by omega
                have hj0 : (0 : Int) ≤ j := by omega
                clear hbs hbn hb
                go_wp2_with (go_at_call 50; (with_reducible refine HSU.out.mono ?_); rintro e w3 ⟨a3, c3, o, rfl, ho1, ho2, ho3, ho4, q3⟩)
                go_roundw
                case rel => exact ⟨j + 1, o.length, c3, a3, o, by omega, by omega, by go_num, rfl, ho1, by rw [ho2, HBN2.out, Nat.add_mul, Nat.one_mul], by omega, by omega, bthen HB2.out q3⟩
                case measure => simp [intOf]; omega
              · obtain rfl : j = 10 := by omega
                have HPL := Lib.hid (plus_any hbs hz9 (by omega))
                rw [hzc] at HPL
                have HSLOT : Hid (wrap64 ((x.toNat : Int) - 48) = (x.toNat : Int) - 48) := by show _ = _; unfold wrap64; omega
                clear hbs hbn hb
                go_wp2_with (go_at_call 51; (with_reducible refine HPL.out.mono ?_); rintro e w4 ⟨a4, c4, r, rfl, hp1, hp2, hp3, hp4, hp5, hp6, q4⟩)
                go_roundw
                case rel => exact ⟨k + 1, r.length, c4, a4, r, by omega, by go_num, rfl, hp1, by rw [hp3, HBN2.out, HBN.out, HDT.out, Nat.mul_comm], HAT2.out, by omega, bthen HBB.out (bthen HB2.out q4)⟩
                case measure => simp [intOf]; omega
          · have hd' : isD x = false := by simpa using hd
            have HPB := Lib.hid (HPN.out (HBAD.out hd'))
            by_cases h48 : x.toNat < 48
            · have h48' : (x.toNat : Int) < 48 := by omega
              clear hd hd' h48
              go_wp2
              go_ret2
              rw [HPB.out.1, HPB.out.2]
              exact ⟨none, 0, rfl, Bs.nil_ _, HBB.out⟩
            · have h48' : ¬ (x.toNat : Int) < 48 := by omega
              have h57 : 57 < x.toNat := by
                rcases Nat.lt_or_ge 57 x.toNat with h | h
                · exact h
                · exact absurd (show isD x = true by unfold isD; simp; omega) hd
              have h57' : (57 : Int) < x.toNat := by omega
              clear hd hd' h48 h57
              go_wp2
              go_ret2
              rw [HPB.out.1, HPB.out.2]
              exact ⟨none, 0, rfl, Bs.nil_ _, HBB.out⟩
        · obtain rfl : k = S := by omega
          have HA2 := Lib.hid HAL.out
          rw [List.take_of_length_le (by have := HSL.out; omega)] at HA2
          have HB3 := Lib.hid HBN.out
          rw [List.take_of_length_le (by have := HSL.out; omega)] at HB3
          have HFU := Lib.hid (ref_fromUnsigned_any HBS.out (by omega))
          rw [HB3.out] at HFU
          have hsl : (senc (dval t : Int)).length ≤ 1 + 10 * k + 1 := by
            have := senc_len_le L
            rw [HB3.out] at this
            have := HBS.out.len
            omega
          go_wp2_with (go_at_call 26; (with_reducible refine HFU.out.mono ?_); rintro e w3 ⟨a3, c3, rfl, hf1, hf2, q3⟩)
          have HDE := Lib.hid (ref_dec_any hf1 (by omega))
          rw [decS_senc] at HDE
          have HF1 := Lib.hid hf1
          clear hf1 hf2
          with_reducible refine HDE.out.mono ?_
          rintro e w4 ⟨rfl, q4⟩
          by_cases hd : decI (dval t : Int) = t
          · have HP := Lib.hid (HOK.out HA2.out hd)
            rw [hd]
            clear hd
            go_wp2
            go_ret2
            rw [HP.out.1, HP.out.2]
            exact ⟨a3, c3, rfl, HF1.out.below q4, bthen (bthen HBB.out q3) q4⟩
          · have HP := Lib.hid (HNO.out hd)
            obtain ⟨D, hD⟩ : ∃ D, decI (dval t : Int) = D := ⟨_, rfl⟩
            rw [hD] at hd ⊢
            have hne : (D == t) = false := by simpa using hd
            clear hD hd
            go_wp2
            go_ret2
            rw [HP.out.1, HP.out.2]
            exact ⟨none, 0, rfl, Bs.nil_ _, bthen (bthen HBB.out q3) q4⟩
  · obtain ⟨t, rfl⟩ : ∃ t, l = 45 :: t := by
      match l, hn with
      | x :: t, hn =>
        have h45 : x = 45 := by simpa [negS] using hn
        exact ⟨t, by rw [h45]⟩
    have hrest : restS (45 :: t) = t := rfl
    have hnum : numS (45 :: t) = -(dval t : Int) := by unfold numS; rw [if_pos hn]; rfl
    have htz : t.length ≤ 200 := by simp only [List.length_cons] at hz; omega
    clear hn
    have HPN := Lib.hid (r_bad (l := (45 :: t)))
    have HOK := Lib.hid (r_ok (l := (45 :: t)))
    have HNO := Lib.hid (r_no (l := (45 :: t)))
    rw [hrest] at HPN HOK
    rw [hnum] at HOK HNO
    obtain ⟨S, hS⟩ : ∃ S, t.length = S := ⟨_, rfl⟩
    have HSL := Lib.hid hS
    have hSz : S ≤ 200 := by rw [← hS]; exact htz
    have hs : (⟨((45 :: t) : List UInt8).toArray⟩ : ByteArray).size = S + 1 := by rw [← hS]; rfl
    have e45 : ((((⟨(45 :: t : List UInt8).toArray⟩ : ByteArray)[0]'(by rw [hs]; omega)).toNat : Int) == 45) = true := rfl
    clear hrest hnum
    try clear htz
    try clear hz
    go_enter Tryd.func31, Tryd.ntmps31
    go_wp2
    have H0 := Lib.hid (bs_lit w 5 #[.int .u8 0] [0] 1 rfl rfl (by decide))
    have HB0 := Lib.hid (bal (Below.refl _ w) (.cells #[.int .u8 0] 5))
    go_loopw [5, 6] (fun v i wr => ∃ k m c' : Nat, ∃ a' : Option Addr, ∃ L, k ≤ S ∧ i = .int .i64 ((k : Int) + 1) ∧ v = .slice a' m c' ∧ Bs wr a' m c' L ∧ bnum L = dval (t.take k) ∧ (t.take k).all isD = true ∧ m ≤ 1 + 10 * k ∧ Below w.heap.size w wr) (fun _ i _ => S + 1 - (intOf i).toNat)
    case atStart => exact ⟨0, 1, 1, _, [0], by omega, rfl, rfl, H0.out, by simp [bnum_cons, bnum_nil, dval], rfl, by omega, HB0.out⟩
    case round =>
      obtain ⟨k, m, c', a', L, hk, rfl, rfl, hbs, hbn, hal, hm, hb⟩ := hrel
      have HBS := Lib.hid hbs
      have HBN := Lib.hid hbn
      have HAL := Lib.hid hal
      have HBB := Lib.hid hb
      clear hbs hbn hal hb
      by_cases hlt : k < S
      · have hkt : k < t.length := by have := HSL.out; omega
        obtain ⟨x, hx⟩ : ∃ x, (⟨((45 :: t) : List UInt8).toArray⟩ : ByteArray)[(k + 1)]'(by rw [hs]; omega) = x := ⟨_, rfl⟩
        have hx2 : t[k] = x := hx
        have HBAD := Lib.hid (fun h => bad_at hkt h)
        have HDT := Lib.hid (dval_take hkt)
        have HAT := Lib.hid (fun h => all_take hkt HAL.out h)
        rw [hx2] at HBAD HDT HAT
        have h0 : (0 : Int) ≤ k := by omega
        have h1 : (k : Int) < S := by omega
        clear hx2 hkt
        by_cases hd : isD x = true
        · obtain ⟨d1, d2⟩ := isD_bd hd
          have hd1 : ¬ (x.toNat : Int) < 48 := by omega
          have hd2 : ¬ (57 : Int) < x.toNat := by omega
          have hd3 : (48 : Int) ≤ x.toNat := by omega
          have hd4 : (x.toNat : Int) ≤ 57 := by omega
          have HAT2 := Lib.hid (HAT.out hd)
          have hzc : ((x.toNat - 48 : Nat) : Int) = (x.toNat : Int) - 48 := by omega
          have hz9 : x.toNat - 48 ≤ 9 := by omega
          clear hd d1 d2
          go_wp2
          go_loopw [7, 8] (fun v i wr2 => ∃ j m2 c2 : Nat, ∃ a2 : Option Addr, ∃ X, 1 ≤ j ∧ j ≤ 10 ∧ i = .int .i64 j ∧ v = .slice a2 m2 c2 ∧ Bs wr2 a2 m2 c2 X ∧ bnum X = j * bnum L ∧ m ≤ m2 ∧ m2 + 1 ≤ m + j ∧ Below wr.heap.size wr wr2) (fun _ i _ => 10 - (intOf i).toNat)
          case atStart => exact ⟨1, m, c', a', L, by omega, by omega, rfl, rfl, HBS.out, by omega, by omega, by omega, Below.refl _ _⟩
          case round =>
            obtain ⟨j, m2, c2, a2, X, hj1, hj2, rfl, rfl, hbs, hbn, hm1, hm2, hb⟩ := hrel
            have HBN2 := Lib.hid hbn
            have HB2 := Lib.hid hb
            by_cases hj : j < 10
            · have HSU := Lib.hid (sum_any hbs (HBS.out.below hb) hm1 (by omega))
              have hj3 : (j : Int) < 10 := by omega
              have hj0 : (0 : Int) ≤ j := by omega
              clear hbs hbn hb
              go_wp2_with (go_at_call 50; (with_reducible refine HSU.out.mono ?_); rintro e w3 ⟨a3, c3, o, rfl, ho1, ho2, ho3, ho4, q3⟩)
              go_roundw
              case rel => exact ⟨j + 1, o.length, c3, a3, o, by omega, by omega, by go_num, rfl, ho1, by rw [ho2, HBN2.out, Nat.add_mul, Nat.one_mul], by omega, by omega, bthen HB2.out q3⟩
              case measure => simp [intOf]; omega
            · obtain rfl : j = 10 := by omega
              have HPL := Lib.hid (plus_any hbs hz9 (by omega))
              rw [hzc] at HPL
              have HSLOT : Hid (wrap64 ((x.toNat : Int) - 48) = (x.toNat : Int) - 48) := by show _ = _; unfold wrap64; omega
              clear hbs hbn hb
              go_wp2_with (go_at_call 51; (with_reducible refine HPL.out.mono ?_); rintro e w4 ⟨a4, c4, r, rfl, hp1, hp2, hp3, hp4, hp5, hp6, q4⟩)
              go_roundw
              case rel => exact ⟨k + 1, r.length, c4, a4, r, by omega, by go_num, rfl, hp1, by rw [hp3, HBN2.out, HBN.out, HDT.out, Nat.mul_comm], HAT2.out, by omega, bthen HBB.out (bthen HB2.out q4)⟩
              case measure => simp [intOf]; omega
        · have hd' : isD x = false := by simpa using hd
          have HPB := Lib.hid (HPN.out (HBAD.out hd'))
          by_cases h48 : x.toNat < 48
          · have h48' : (x.toNat : Int) < 48 := by omega
            clear hd hd' h48
            go_wp2
            go_ret2
            rw [HPB.out.1, HPB.out.2]
            exact ⟨none, 0, rfl, Bs.nil_ _, HBB.out⟩
          · have h48' : ¬ (x.toNat : Int) < 48 := by omega
            have h57 : 57 < x.toNat := by
              rcases Nat.lt_or_ge 57 x.toNat with h | h
              · exact h
              · exact absurd (show isD x = true by unfold isD; simp; omega) hd
            have h57' : (57 : Int) < x.toNat := by omega
            clear hd hd' h48 h57
            go_wp2
            go_ret2
            rw [HPB.out.1, HPB.out.2]
            exact ⟨none, 0, rfl, Bs.nil_ _, HBB.out⟩
      · obtain rfl : k = S := by omega
        have HA2 := Lib.hid HAL.out
        rw [List.take_of_length_le (by have := HSL.out; omega)] at HA2
        have HB3 := Lib.hid HBN.out
        rw [List.take_of_length_le (by have := HSL.out; omega)] at HB3
        have HFU := Lib.hid (ref_fromUnsigned_any HBS.out (by omega))
        rw [HB3.out] at HFU
        have hsl : (senc (dval t : Int)).length ≤ 1 + 10 * k + 1 := by
          have := senc_len_le L
          rw [HB3.out] at this
          have := HBS.out.len
          omega
        go_wp2_with (go_at_call 26; (with_reducible refine HFU.out.mono ?_); rintro e w3 ⟨a3, c3, rfl, hf1, hf2, q3⟩)
        obtain ⟨n, hn⟩ : ∃ n, (senc (dval t : Int)).length = n := ⟨_, rfl⟩
        rw [hn] at hf1 hsl ⊢
        have HF1 := Lib.hid hf1
        have HF2 := Lib.hid hf2
        have HNL := Lib.hid hn
        have Q3 := Lib.hid q3
        clear hf1 hf2 hn q3
        go_loopw [10] (fun i wr2 => ∃ j : Nat, j ≤ n ∧ i = .int .i64 j ∧ Bs wr2 a3 n c3 (cplTo (senc (dval t : Int)) j) ∧ Mine wr2 wr.heap.size a3 ∧ Below wr.heap.size wr wr2) (fun i _ => n - (intOf i).toNat)
        case atStart => exact ⟨0, by omega, rfl, by rw [cplTo_zero]; exact HF1.out, HF2.out, Q3.out⟩
        case round =>
          obtain ⟨j, hj, rfl, hbs, hmn, hb⟩ := hrel
          have HBI := Lib.hid hb
          have HMI := Lib.hid hmn
          by_cases hlt2 : j < n
          · have hkL : j < (senc (dval t : Int)).length := by have := HNL.out; omega
            obtain ⟨b, off, hkl, hA, _, hc⟩ := hbs.at_ hlt2
            obtain ⟨hx1, hx2, hx3⟩ := hmn _ hA
            have hf := hx3 (off + j)
            obtain ⟨ht1, ht2, ht3⟩ := cplTo_at hkL
            rw [ht2] at hc
            subst hA
            have HST := Lib.hid (bs_store hbs (j := j) (cplB (senc (dval t : Int))[j]))
            rw [ht3] at HST
            have hcn := cplB_num (senc (dval t : Int))[j]
            generalize (senc (dval t : Int))[j] = x at *
            have hxb := byte_bd x
            have hcv : ((cplB x).toNat : Int) = 255 - (x.toNat : Int) := by omega
            rw [hcv] at HST
            have hk0 : (0 : Int) ≤ j := by omega
            have hk1 : (j : Int) < n := by omega
            have HX1 := Lib.hid hx1
            clear hb hmn hbs hx3 hx1 ht1 ht2 ht3 hcn hcv hkl hkL
            go_wp2
            exact ⟨⟨j + 1, by omega, by go_num, HST.out, HMI.out.setCell _ _, HBI.out.setCell (p := ⟨b, off + j, none⟩) HX1.out _⟩, by simp [intOf]; omega⟩
          · obtain rfl : j = n := by omega
            have HBS2 := Lib.hid hbs
            rw [cplTo_all (by have := HNL.out; omega)] at HBS2
            have HPL := Lib.hid (plus_any HBS2.out (z := 1) (by omega) (by omega))
            rw [show (((1 : Nat)) : Int) = 1 from rfl] at HPL
            clear hb hmn hbs
            go_wp2_with fail
            with_reducible refine HPL.out.mono ?_
            rintro e w5 ⟨a5, c5, r, rfl, hp1, hp2, hp3, hp4, hp5, hp6, q5⟩
            have hvx : ∃ v : Int, stripI r = senc v ∧ (decI v = 45 :: t → pC (45 :: t) = 0 ∧ pL (45 :: t) = senc v) ∧ (¬ decI v = 45 :: t → pC (45 :: t) = 11 ∧ pL (45 :: t) = []) := by
              rcases Nat.eq_zero_or_pos (dval t) with hN | hN
              · rw [hN] at hp3
                have hn1 := HNL.out
                rw [hN] at hn1
                obtain ⟨mm, hmm⟩ := cpl_zero hp3 (by rw [hn1]; exact hp5)
                refine ⟨mm, hmm, fun h => absurd h (decI_no_hyphen mm t), fun _ => HNO.out ?_⟩
                rw [hN]
                exact decI_no_hyphen 0 t
              · have hn1 := HNL.out
                have hs1 := cpl_senc hN hp3 (by rw [hn1]; exact hp6)
                exact ⟨_, hs1, fun h => HOK.out HA2.out h, fun h => HNO.out h⟩
            obtain ⟨v, hv1, hv2, hv3⟩ := hvx
            have HS1 := Lib.hid hv1
            have HV2 := Lib.hid hv2
            have HV3 := Lib.hid hv3
            have HP1 := Lib.hid hp1
            have HB5 : Hid (Below w.heap.size w w5) := bthen HBB.out (bthen HBI.out q5)
            have hrl : r.length ≤ 2004 := by omega
            have hr0 : 0 < r.length := by
              have := HNL.out
              have h2 := senc_ne (dval t : Int)
              rcases Nat.eq_zero_or_pos j with h0 | h0
              · exact absurd (List.eq_nil_of_length_eq_zero (by omega)) h2
              · omega
            clear hv1 hv2 hv3 hp1 hp2 hp3 hp4 hp5 hp6 q5 HPL
            go_wp2
            go_loop [9] (fun u => ∃ a' n' c' l', u = .slice a' n' c' ∧ Bs w5 a' n' c' l' ∧ stripI l' = stripI r ∧ n' ≤ r.length ∧ 0 < n') (fun u => lenOfV u)
            case atStart => exact ⟨a5, _, c5, r, rfl, HP1.out, rfl, Nat.le_refl _, hr0⟩
            case round =>
              obtain ⟨a', n', c', l', rfl, hbs, he, hn1, hn0⟩ := hrel
              have HE := Lib.hid he
              have HBS3 := Lib.hid hbs
              have HL3 := Lib.hid hbs.len
              have HVD := Lib.hid (ref_valid_any hbs)
              have hcc := hbs.2.1
              have hcm := hbs.2.2.1
              unfold maxLen at hcm
              clear he
              by_cases hr : redI l' = true
              · obtain ⟨b, off, rfl, hd1, hd2, hd3, hd4, hd5⟩ := ref_strip hbs hr
                rw [hd3] at HVD
                have HD1 := Lib.hid hd1
                have HD2 : Hid (stripI (l'.drop 1) = stripI r) := hd2.trans HE.out
                have hd4' : (1 : Int) < n' := by omega
                clear hbs hr hd1 hd2 hd3
                go_wp2_with (go_at_call 20; (with_reducible refine HVD.out.mono ?_); rintro e w6 ⟨rfl, rfl⟩)
                exact ⟨⟨_, _, _, _, rfl, HD1.out, HD2.out, by omega, by omega⟩, by simp [lenOfV]; omega⟩
              · have hr' : redI l' = false := by simpa using hr
                have hfin : l' = senc v := by rw [← HS1.out, ← HE.out, strip_not hr']
                subst hfin
                have HDE := Lib.hid (ref_dec_any hbs (by omega))
                rw [decS_senc] at HDE
                rw [senc_valid] at HVD
                have hlen := HL3.out
                subst hlen
                clear hbs hr hr'
                have hc2 : (senc v).length = 1 ∨ 1 < (senc v).length := by omega
                rcases hc2 with hc2 | hc2
                all_goals
                  (first | have hc3 : ¬ (1 : Int) < ((senc v).length : Int) := by omega | have hc3 : (1 : Int) < ((senc v).length : Int) := by omega)
                  clear hc2
                  go_wp2_with (go_at_call 20; (with_reducible refine HVD.out.mono ?_); rintro e w6 ⟨rfl, rfl⟩)
                  with_reducible refine HDE.out.mono ?_
                  rintro e w7 ⟨rfl, q7⟩
                  by_cases hd : decI v = 45 :: t
                  · have HP := Lib.hid (HV2.out hd)
                    rw [hd]
                    clear hd
                    go_wp2
                    go_ret2
                    rw [HP.out.1, HP.out.2]
                    exact ⟨a', c', rfl, HBS3.out.below q7, bthen HB5.out q7⟩
                  · have HP := Lib.hid (HV3.out hd)
                    obtain ⟨D, hD⟩ : ∃ D, decI v = D := ⟨_, rfl⟩
                    rw [hD] at hd ⊢
                    have hne : (D == 45 :: t) = false := by simpa using hd
                    clear hD hd
                    go_wp2
                    go_ret2
                    rw [HP.out.1, HP.out.2]
                    exact ⟨none, 0, rfl, Bs.nil_ _, bthen HB5.out q7⟩
end Go.Proofs.YtammegdfjgphkaaDoor
