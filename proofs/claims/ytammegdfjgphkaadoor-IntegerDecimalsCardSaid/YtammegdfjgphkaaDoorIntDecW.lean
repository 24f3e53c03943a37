/-
  Contract of Decimal (of the program); a store into a slice of the call's own.
-/
import Derived.Test.YtammegdfjgphkaaDoorIntNeg
import Derived.Test.YtammegdfjgphkaaDoorIntConv
namespace Go.Proofs.YtammegdfjgphkaaDoor
open Go.RowKit

theorem bs_store {w : World} {b off n c : Nat} {l : List UInt8} (h : Bs w (some ⟨b, off, none⟩) n c l) {j : Nat} (x : UInt8) : Bs (w.setCell ⟨b, off + j, none⟩ (.int .u8 x.toNat)) (some ⟨b, off, none⟩) n c (l.set j x) := by
  obtain ⟨h1, h2, h3, h4⟩ := h
  refine ⟨by simpa using h1, h2, h3, fun hn => ?_⟩
  obtain ⟨b', off', e, hb, hc⟩ := h4 hn
  injection e with e
  injection e with e1 e2
  subst e1; subst e2
  refine ⟨b, off, rfl, by simpa using hb, fun i hi => ?_⟩
  have hi' : i < l.length := by simpa using hi
  by_cases hij : j = i
  · subst hij
    rw [World.cell?_setCell_same _ _ _ (hc j hi')]
    simp
  · rw [World.cell?_setCell_other _ _ _ _ (fun e => hij (by injection e with _ e2; omega)), hc i hi']
    rw [List.getElem_set_ne hij]
theorem Mine.setCell {w : World} {B : Nat} {a : Option Addr} (h : Mine w B a) (p : Addr) (u : Value) : Mine (w.setCell p u) B a := fun x hx => by
  obtain ⟨h1, h2, h3⟩ := h x hx
  exact ⟨h1, by simpa using h2, fun j => by simpa using h3 j⟩

/-- the digits, some of them made signs -/
def textTo (d : List UInt8) (k : Nat) : List UInt8 := (d.take k).map (fun x => UInt8.ofNat (48 + x.toNat)) ++ d.drop k
theorem textTo_zero (d : List UInt8) : textTo d 0 = d := by simp [textTo]
theorem textTo_all {d : List UInt8} {k : Nat} (h : d.length ≤ k) : textTo d k = d.map (fun x => UInt8.ofNat (48 + x.toNat)) := by
  unfold textTo
  rw [List.take_of_length_le h, List.drop_of_length_le h, List.append_nil]
theorem textTo_len (d : List UInt8) (k : Nat) : (textTo d k).length = d.length := by
  simp [textTo]
  omega
theorem textTo_at {d : List UInt8} {k : Nat} (h : k < d.length) : ∃ h' : k < (textTo d k).length, (textTo d k)[k] = d[k] ∧ (textTo d k).set k (UInt8.ofNat (48 + d[k].toNat)) = textTo d (k + 1) := by
  have h' : k < (textTo d k).length := by rw [textTo_len]; exact h
  have hl : ((d.take k).map (fun x => UInt8.ofNat (48 + x.toNat))).length = k := by simp; omega
  have e : textTo d k = (d.take k).map (fun x => UInt8.ofNat (48 + x.toNat)) ++ d[k] :: d.drop (k + 1) := by
    unfold textTo
    rw [List.drop_eq_getElem_cons h]
  refine ⟨h', ?_, ?_⟩
  · have h2 : (textTo d k)[k]? = some d[k] := by
      rw [e, List.getElem?_append_right (by omega), hl, Nat.sub_self]
      rfl
    rw [List.getElem?_eq_getElem h'] at h2
    exact Option.some.inj h2
  · rw [e, List.set_append_right _ _ (by omega), hl, Nat.sub_self, List.set_cons_zero]
    unfold textTo
    rw [List.take_succ_eq_append_getElem h, List.map_append, List.append_assoc]
    rfl
theorem str_app (A B : List UInt8) : (⟨A.toArray⟩ : ByteArray) ++ (⟨B.toArray⟩ : ByteArray) = ⟨(A ++ B).toArray⟩ := by
  apply ByteArray.ext
  simp
def decS (l : List UInt8) : List UInt8 := if vI l = true then decI (sval l) else []
theorem decS_zero : decS [0] = [48] := by
  have e : sval [0] = ((0 : Nat) : Int) := by decide
  show (if vI [0] = true then _ else _) = _
  rw [if_pos (show vI [0] = true from rfl), e, decI_nat, decN_zero]
theorem dec_of {d : List UInt8} {N : Nat} (hN : 0 < N) (hd : dgv 10 d = N) (h10 : ∀ x ∈ d, x.toNat < 10) (hh : d.head? ≠ some 0) : d.map (fun x => UInt8.ofNat (48 + x.toNat)) = decN N := by
  rw [← hd, decN_digits d.length d rfl (by rintro rfl; rw [dgv_nil] at hd; omega) h10 (.inl hh)]
theorem add48 {x : UInt8} (h : x.toNat < 10) : ((UInt8.ofNat (48 + x.toNat)).toNat : Int) = (x.toNat : Int) + 48 := by
  rw [UInt8.toNat_ofNat']
  omega

theorem octet_any (w : World) : Calls Tryd.prog 46 #[] w fun e w' => e = .returned (.agg #[.int .u64 256, .int .i64 4, .int .u64 4294967296]) ∧ Below w.heap.size w w' := by
  go_enter Tryd.func46, Tryd.ntmps46
  go_wp2
  exact bodyPost_ret (v := .agg #[.int .u64 256, .int .i64 4, .int .u64 4294967296]) (by simp [results, Tryd.results46, go_sem]) rfl ⟨rfl, bal (Below.refl _ _) _⟩
theorem decimal_any (w : World) : Calls Tryd.prog 47 #[] w fun e w' => e = .returned (.agg #[.int .u64 10, .int .i64 9, .int .u64 1000000000]) ∧ Below w.heap.size w w' := by
  go_enter Tryd.func47, Tryd.ntmps47
  go_wp2
  exact bodyPost_ret (v := .agg #[.int .u64 10, .int .i64 9, .int .u64 1000000000]) (by simp [results, Tryd.results47, go_sem]) rfl ⟨rfl, bal (Below.refl _ _) _⟩

set_option maxRecDepth 100000 in
set_option maxHeartbeats 4000000 in
theorem dec_any {w : World} {a : Option Addr} {n c : Nat} {l : List UInt8} (h : Bs w a n c l) (hz : n ≤ 1000) :
    Calls Tryd.prog 29 #[.slice a n c] w fun e w' => e = .returned (.string ⟨(decS l).toArray⟩) ∧ Below w.heap.size w w' := by
  have hl := h.len
  have HV := Lib.hid (valid_any h)
  have HG := Lib.hid (sign_any h)
  rcases hv : vI l with _ | _
  · rw [hv] at HV
    have e : decS l = [] := by simp [decS, hv]
    rw [e]
    clear h hl hv HG e
    go_enter Tryd.func29, Tryd.ntmps29
    go_wp2_with (go_at_call 19; go_must (refine HV.out.mono ?_); rintro e w' ⟨rfl, rfl⟩)
    go_ret
    exact ⟨rfl, Below.refl _ _⟩
  · rw [hv] at HV
    by_cases h0 : l = [0]
    · subst h0
      rw [sgI_zero] at HG
      rw [decS_zero]
      clear h hl hv
      go_enter Tryd.func29, Tryd.ntmps29
      go_wp2_with (first | (go_at_call 19; go_must (refine HV.out.mono ?_); rintro e w' ⟨rfl, rfl⟩) | (go_at_call 21; go_must (refine HG.out.mono ?_); rintro e w' ⟨rfl, rfl⟩))
      go_ret
      exact ⟨rfl, Below.refl _ _⟩
    · have HD : Hid (decS l = decI (sval l)) := by show _ = _; unfold decS; rw [if_pos hv]
      have HX := Lib.hid h
      rcases hh : hiB l with _ | _
      · rw [sgI_pos hv hh h0] at HG
        have HP := Lib.hid (sval_pos hv hh h0)
        have HS : Hid (sval l = (bnum l : Int)) := by show _ = _; unfold sval; rw [hh]; simp
        have HC := Lib.hid (fun w (h : Bs w a n c l) => converted_dec h hz)
        clear h hl hv h0 hh
        go_enter Tryd.func29, Tryd.ntmps29
        go_wp2_with (first | (go_at_call 19; go_must (refine HV.out.mono ?_); rintro e w' ⟨rfl, rfl⟩) | (go_at_call 21; go_must (refine HG.out.mono ?_); rintro e w' ⟨rfl, rfl⟩) | (go_at_call 46; go_must (refine (octet_any _).mono ?_); rintro e w2 ⟨rfl, q2⟩) | (go_at_call 47; go_must (refine (decimal_any _).mono ?_); rintro e w3 ⟨rfl, q3⟩) | (go_at_call 45; go_must (refine (HC.out _ ((HX.out.below q2).below q3)).mono ?_); rintro e w4 ⟨a4, c4, d, rfl, hd1, hd2, hd3, hd4, hd5, hd6, q4⟩))
        obtain ⟨m, hm⟩ : ∃ m, d.length = m := ⟨_, rfl⟩
        rw [hm] at hd1 hd3 ⊢
        have hBw : Hid (Below w.heap.size w w4) := bthen (bthen q2 q3) q4
        have HMN : Hid (Mine w4 w.heap.size a4) := hd2.more (by have := q2.size; have := q3.size; omega)
        have HD1 := Lib.hid hd1
        have HD4 := Lib.hid hd4
        have HD5 := Lib.hid hd5
        have HD6 := Lib.hid hd6
        have HM := Lib.hid hm
        clear hd1 hd2 hd4 hd5 hd6 hm q2 q3 q4
        go_loopw [23] (fun i wr => ∃ k : Nat, k ≤ m ∧ i = .int .i64 k ∧ Bs wr a4 m c4 (textTo d k) ∧ Mine wr w.heap.size a4 ∧ Below w.heap.size w wr) (fun i _ => m - (intOf i).toNat)
        case atStart => exact ⟨0, by omega, rfl, by rw [textTo_zero]; exact HD1.out, HMN.out, hBw.out⟩
        case round =>
          obtain ⟨k, hk, rfl, hbs, hmn, hb⟩ := hrel
          have HBS := Lib.hid hbs
          have HMI := Lib.hid hmn
          have HBB := Lib.hid hb
          by_cases hlt : k < m
          · have hkd : k < d.length := by have := HM.out; omega
            obtain ⟨ht1, ht2, ht3⟩ := textTo_at hkd
            obtain ⟨b, off, hkl, rfl, _, hc⟩ := hbs.at_ hlt
            obtain ⟨hf1, hf2, hf3⟩ := hmn _ rfl
            have hf := hf3 (off + k)
            rw [ht2] at hc
            have hx10 := HD5.out _ (List.getElem_mem hkd)
            have HST := Lib.hid (bs_store hbs (j := k) (UInt8.ofNat (48 + d[k].toNat)))
            rw [ht3, add48 hx10] at HST
            generalize d[k] = x at *
            have hx9 : (x.toNat : Int) ≤ 9 := by omega
            have hk0 : (0 : Int) ≤ k := by omega
            have hk1 : (k : Int) < m := by omega
            have HB0 := Lib.hid hf1
            clear hbs hmn hb ht1 ht2 ht3 hkl hkd hf3 hf1 hx10
            go_wp2
            exact ⟨⟨k + 1, by omega, by go_num, HST.out, HMI.out.setCell _ _, HBB.out.setCell (p := ⟨b, off + k, none⟩) HB0.out _⟩, by simp [intOf]; omega⟩
          · obtain rfl : k = m := by omega
            have hcv := fun dst hd => hbs.conv (P := Tryd.prog) (dst := dst) Tryd.underlying22 Tryd.underlying5 hd
            have hcv2 := hcv 9 Tryd.underlying9
            have HT := Lib.hid (textTo_all (d := d) (k := k) (by have := HM.out; omega))
            obtain ⟨T, hTd⟩ : ∃ T, textTo d k = T := ⟨_, rfl⟩
            have hTl : T.length = k := by rw [← hTd, textTo_len, HM.out]
            rw [hTd] at hcv2 HT
            have hTs : (⟨T.toArray⟩ : ByteArray).size = k := by rw [← hTl]; rfl
            have hk18 : (k : Int) ≤ 18000 := by omega
            clear hcv hbs hmn hb hTd
            go_wp2
            go_ret
            refine ⟨congrArg Ending.returned (congrArg Value.string ?_), HBB.out⟩
            have e := str_app [] T
            rw [List.nil_append] at e
            refine e.trans ?_
            have hp : 0 < bnum l := by
              have h1 := HP.out
              have h2 := HS.out
              omega
            rw [HD.out, HS.out, decI_nat, HT.out, dec_of hp HD4.out HD5.out HD6.out]
      · rw [sgI_neg hv hh] at HG
        have HS := Lib.hid ((sval_nonneg_iff l).2 hh)
        have HN := Lib.hid (fun w (h : Bs w a n c l) => negated_any h (by omega))
        have HNN := Lib.hid (fun r h1 h2 => neg_num (c := l) (r := r) h1 h2 hh)
        have HL := Lib.hid hl
        clear h hl hv h0 hh
        go_enter Tryd.func29, Tryd.ntmps29
        go_wp2_with (first | (go_at_call 19; go_must (refine HV.out.mono ?_); rintro e w' ⟨rfl, rfl⟩) | (go_at_call 21; go_must (refine HG.out.mono ?_); rintro e w' ⟨rfl, rfl⟩) | (go_at_call 44; go_must (refine (HN.out _ HX.out).mono ?_); rintro e w1 ⟨a1, c1, r, rfl, hn1, hn2, hn3, q1⟩) | (go_at_call 46; go_must (refine (octet_any _).mono ?_); rintro e w2 ⟨rfl, q2⟩) | (go_at_call 47; go_must (refine (decimal_any _).mono ?_); rintro e w3 ⟨rfl, q3⟩) | (go_at_call 45; go_must (refine (converted_dec ((hn1.bs.below q2).below q3) hz).mono ?_); rintro e w4 ⟨a4, c4, d, rfl, hd1, hd2, hd3, hd4, hd5, hd6, q4⟩))
        have HNV := Lib.hid (HNN.out r (by rw [hn2, HL.out]) hn3)
        obtain ⟨m, hm⟩ : ∃ m, d.length = m := ⟨_, rfl⟩
        rw [hm] at hd1 hd3 ⊢
        have hBw : Hid (Below w.heap.size w w4) := bthen (bthen (bthen q1 q2) q3) q4
        have HMN : Hid (Mine w4 w.heap.size a4) := hd2.more (by have := q1.size; have := q2.size; have := q3.size; omega)
        have HD1 := Lib.hid hd1
        have HD4 := Lib.hid hd4
        have HD5 := Lib.hid hd5
        have HD6 := Lib.hid hd6
        have HM := Lib.hid hm
        clear hd1 hd2 hd4 hd5 hd6 hm q1 q2 q3 q4 hn1 hn2 hn3
        go_loopw [23] (fun i wr => ∃ k : Nat, k ≤ m ∧ i = .int .i64 k ∧ Bs wr a4 m c4 (textTo d k) ∧ Mine wr w.heap.size a4 ∧ Below w.heap.size w wr) (fun i _ => m - (intOf i).toNat)
        case atStart => exact ⟨0, by omega, rfl, by rw [textTo_zero]; exact HD1.out, HMN.out, hBw.out⟩
        case round =>
          obtain ⟨k, hk, rfl, hbs, hmn, hb⟩ := hrel
          have HBS := Lib.hid hbs
          have HMI := Lib.hid hmn
          have HBB := Lib.hid hb
          by_cases hlt : k < m
          · have hkd : k < d.length := by have := HM.out; omega
            obtain ⟨ht1, ht2, ht3⟩ := textTo_at hkd
            obtain ⟨b, off, hkl, rfl, _, hc⟩ := hbs.at_ hlt
            obtain ⟨hf1, hf2, hf3⟩ := hmn _ rfl
            have hf := hf3 (off + k)
            rw [ht2] at hc
            have hx10 := HD5.out _ (List.getElem_mem hkd)
            have HST := Lib.hid (bs_store hbs (j := k) (UInt8.ofNat (48 + d[k].toNat)))
            rw [ht3, add48 hx10] at HST
            generalize d[k] = x at *
            have hx9 : (x.toNat : Int) ≤ 9 := by omega
            have hk0 : (0 : Int) ≤ k := by omega
            have hk1 : (k : Int) < m := by omega
            have HB0 := Lib.hid hf1
            clear hbs hmn hb ht1 ht2 ht3 hkl hkd hf3 hf1 hx10
            go_wp2
            exact ⟨⟨k + 1, by omega, by go_num, HST.out, HMI.out.setCell _ _, HBB.out.setCell (p := ⟨b, off + k, none⟩) HB0.out _⟩, by simp [intOf]; omega⟩
          · obtain rfl : k = m := by omega
            have hcv := fun dst hd => hbs.conv (P := Tryd.prog) (dst := dst) Tryd.underlying22 Tryd.underlying5 hd
            have hcv2 := hcv 9 Tryd.underlying9
            have HT := Lib.hid (textTo_all (d := d) (k := k) (by have := HM.out; omega))
            obtain ⟨T, hTd⟩ : ∃ T, textTo d k = T := ⟨_, rfl⟩
            have hTl : T.length = k := by rw [← hTd, textTo_len, HM.out]
            rw [hTd] at hcv2 HT
            have hTs : (⟨T.toArray⟩ : ByteArray).size = k := by rw [← hTl]; rfl
            have hk18 : (k : Int) ≤ 18000 := by omega
            clear hcv hbs hmn hb hTd
            go_wp2
            go_ret
            refine ⟨congrArg Ending.returned (congrArg Value.string ?_), HBB.out⟩
            refine (str_app [45] T).trans ?_
            have hp : 0 < bnum r := by
              have h1 := HNV.out
              have h2 := HS.out
              omega
            have hsv : sval l = -(bnum r : Int) := by
              have h1 := HNV.out
              omega
            rw [HD.out, hsv, decI_neg hp, HT.out, dec_of hp HD4.out HD5.out HD6.out]
            rfl
end Go.Proofs.YtammegdfjgphkaaDoor
