/-
  Contract of ParseDecimal (of the program).
-/
import Derived.Test.YtammegdfjgphkaaDoorIntParW
namespace Go.Proofs.YtammegdfjgphkaaDoor
open Go.RowKit

def dgOf (x : UInt8) : UInt8 := UInt8.ofNat (x.toNat - 48)
def dgTo (t : List UInt8) (k : Nat) : List UInt8 := (t.take k).map dgOf ++ List.replicate (t.length - k) 0
theorem dgTo_zero (t : List UInt8) : dgTo t 0 = List.replicate t.length 0 := by simp [dgTo]
theorem dgTo_all {t : List UInt8} {k : Nat} (h : t.length ≤ k) : dgTo t k = t.map dgOf := by
  unfold dgTo
  rw [List.take_of_length_le h, show t.length - k = 0 from by omega]
  simp
theorem dgTo_len {t : List UInt8} {k : Nat} (h : k ≤ t.length) : (dgTo t k).length = t.length := by
  simp [dgTo]
  omega
theorem dgTo_at {t : List UInt8} {k : Nat} (h : k < t.length) : ∃ h' : k < (dgTo t k).length, (dgTo t k)[k] = 0 ∧ (dgTo t k).set k (dgOf t[k]) = dgTo t (k + 1) := by
  have h' : k < (dgTo t k).length := by rw [dgTo_len (by omega)]; exact h
  have hl : ((t.take k).map dgOf).length = k := by simp; omega
  obtain ⟨q, hq⟩ : ∃ q, t.length - k = q + 1 := ⟨t.length - k - 1, by omega⟩
  have hq2 : t.length - (k + 1) = q := by omega
  have e : dgTo t k = (t.take k).map dgOf ++ 0 :: List.replicate q 0 := by
    unfold dgTo
    rw [hq, List.replicate_succ]
  refine ⟨h', ?_, ?_⟩
  · have h2 : (dgTo t k)[k]? = some 0 := by
      rw [e, List.getElem?_append_right (by omega), hl, Nat.sub_self]
      rfl
    rw [List.getElem?_eq_getElem h'] at h2
    exact Option.some.inj h2
  · rw [e, List.set_append_right _ _ (by omega), hl, Nat.sub_self, List.set_cons_zero]
    unfold dgTo
    rw [List.take_succ_eq_append_getElem h, List.map_append, List.append_assoc, hq2]
    rfl
theorem dgOf_num {x : UInt8} (h : isD x = true) : ((dgOf x).toNat : Int) = (x.toNat : Int) - 48 ∧ (dgOf x).toNat < 10 ∧ 48 ≤ (x.toNat : Int) ∧ (x.toNat : Int) ≤ 57 := by
  unfold isD at h
  simp only [Bool.and_eq_true, decide_eq_true_eq] at h
  unfold dgOf
  rw [UInt8.toNat_ofNat']
  omega
theorem dg_all {t : List UInt8} (h : t.all isD = true) : ∀ x ∈ t.map dgOf, x.toNat < 10 := by
  intro y hy
  obtain ⟨x, hx, rfl⟩ := List.mem_map.1 hy
  rw [List.all_eq_true] at h
  exact (dgOf_num (h x hx)).2.1
/-- what ParseDecimal returns -/
def pC (l : List UInt8) : Int := if (parS l).isSome = true then 0 else 11
def pL (l : List UInt8) : List UInt8 := match parS l with | some n => senc n | none => []
theorem p_none {l : List UInt8} (h : parS l = none) : pC l = 11 ∧ pL l = [] := by simp [pC, pL, h]
theorem p_some {l : List UInt8} {n : Int} (h : parS l = some n) : pC l = 0 ∧ pL l = senc n := by simp [pC, pL, h]
theorem p_bad {l : List UInt8} (h : numOk (restS l) = false) : pC l = 11 ∧ pL l = [] := p_none (by rw [parS_eq, if_neg (by simp [h])])
theorem p_bad0 {l : List UInt8} (hn : negS l = true) (h : restS l = [48]) : pC l = 11 ∧ pL l = [] := p_none (by rw [parS_eq, if_neg (fun hh => hh.2 ⟨hn, h⟩)])
theorem p_pos {l : List UInt8} (hk : numOk (restS l) = true) (hn : negS l = false) : pC l = 0 ∧ pL l = senc (dval (restS l) : Int) :=
  p_some (by rw [parS_eq, if_pos ⟨hk, fun h => by rw [hn] at h; cases h.1⟩]; unfold numS; rw [hn]; rfl)
theorem p_neg {l : List UInt8} (hk : numOk (restS l) = true) (hn : negS l = true) (h : restS l ≠ [48]) : pC l = 0 ∧ pL l = senc (-(dval (restS l) : Int)) :=
  p_some (by rw [parS_eq, if_pos ⟨hk, fun hh => h hh.2⟩]; unfold numS; rw [if_pos hn])
theorem dval_pos {t : List UInt8} (hk : numOk t = true) (h : t ≠ [48]) : 0 < dval t := by
  rcases Nat.eq_zero_or_pos (dval t) with h0 | h0
  · have := decN_text hk
    rw [h0, decN_zero] at this
    exact absurd this.symm h
  · exact h0
theorem hiB_senc {N : Nat} : hiB (senc (N : Int)) = false := by
  rcases h : hiB (senc (N : Int)) with _ | _
  · rfl
  · have := (sval_nonneg_iff _).2 h
    rw [senc_val] at this
    omega
theorem bnum_senc {N : Nat} : bnum (senc (N : Int)) = N := by
  have h := senc_val (N : Int)
  unfold sval at h
  rw [hiB_senc] at h
  simp at h
  omega
theorem neg_senc {N : Nat} {r : List UInt8} (h0 : 0 < N) (hl : r.length = (senc (N : Int)).length) (h : ∃ C : Nat, bnum r + C * 256 ^ r.length + bnum (senc (N : Int)) = 256 ^ r.length) : stripI r = senc (-(N : Int)) := by
  have h1 := neg_pos hl h hiB_senc (by rw [bnum_senc]; exact h0)
  rw [senc_val] at h1
  rw [stripI_eq r (by rintro rfl; have := senc_ne (N : Int); cases hq : senc (N : Int) with | nil => exact this hq | cons x y => rw [hq] at hl; simp at hl), h1]

theorem stripI_len : ∀ l : List UInt8, (stripI l).length ≤ l.length
  | [] => Nat.le_refl _
  | [x] => Nat.le_refl _
  | x :: y :: l => by
    rw [stripI]
    split
    · exact Nat.le_refl _
    · have := stripI_len (y :: l)
      simp only [List.length_cons] at *
      omega
theorem senc_len_le (l : List UInt8) : (senc (bnum l : Int)).length ≤ l.length + 1 := by
  rw [← fromU_eq]
  exact stripI_len (0 :: l)

set_option maxRecDepth 100000 in
set_option maxHeartbeats 4000000 in
theorem par_any (w : World) (l : List UInt8) (hz : l.length ≤ 1000) : Calls Tryd.prog 30 #[.string ⟨l.toArray⟩] w fun e w' => ∃ a c, e = .returned (.tuple #[.slice a (pL l).length c, .int .i64 (pC l)]) ∧ Bs w' a (pL l).length c (pL l) ∧ Below w.heap.size w w' := by
  obtain ⟨i0, hi, hz0, hz1, hz2⟩ := info_parts info_u8
  have HCU := Lib.hid (fun w => (Tryd.strings_CutPrefix ⟨l.toArray⟩ ⟨#[45]⟩ w).mono (R' := fun e w' => e = .returned (.tuple #[.string ⟨(Lib.trimPrefix (⟨l.toArray⟩ : ByteArray).data.toList (⟨#[45]⟩ : ByteArray).data.toList).toArray⟩, .bool (Lib.hasPrefix (⟨l.toArray⟩ : ByteArray).data.toList (⟨#[45]⟩ : ByteArray).data.toList)]) ∧ w = w') fun _ _ h => ⟨h.1, h.2.symm⟩)
  have ec1 : Lib.trimPrefix (⟨l.toArray⟩ : ByteArray).data.toList (⟨#[45]⟩ : ByteArray).data.toList = restS l := cut_rest l
  have ec2 : Lib.hasPrefix (⟨l.toArray⟩ : ByteArray).data.toList (⟨#[45]⟩ : ByteArray).data.toList = negS l := cut_has l
  rw [ec1, ec2] at HCU
  clear ec1 ec2
  have htl : (restS l).length ≤ 1000 := by
    unfold restS
    split
    · rw [List.length_drop]; omega
    · exact hz
  have HIN := Lib.hid (fun w => isNumber_any w (restS l) (by omega))
  rcases hk : numOk (restS l) with _ | _
  · rw [hk] at HIN
    rw [(p_bad hk).1, (p_bad hk).2]
    generalize restS l = t at *
    clear hk hz
    go_enter Tryd.func30, Tryd.ntmps30
    go_wp2_with (first | (go_at_call 48; go_must (refine (HCU.out _).mono ?_); rintro e w1 ⟨rfl, rfl⟩) | (go_at_call 49; go_must (refine (HIN.out _).mono ?_); rintro e w1 ⟨rfl, rfl⟩))
    go_ret2
    exact ⟨none, 0, rfl, Bs.nil_ _, Below.refl _ _⟩
  · rw [hk] at HIN
    have HDG0 := numOk_all hk
    rcases hn : negS l with _ | _
    · rw [(p_pos hk hn).1, (p_pos hk hn).2]
      · rw [hn] at HCU
        generalize restS l = t at *
        obtain ⟨m, hm⟩ : ∃ m, t.length = m := ⟨_, rfl⟩
        have hs : (⟨t.toArray⟩ : ByteArray).size = m := by rw [← hm]; rfl
        have HM := Lib.hid hm
        have HDG : Hid (∀ x ∈ t, isD x = true) := by show ∀ x ∈ t, isD x = true; rw [List.all_eq_true] at HDG0; exact HDG0
        have HCV := Lib.hid (dg_all HDG0)
        have HDV : Hid (dgv 10 (t.map dgOf) = dval t) := (dval_dgv t).symm
        have hmz : m ≤ 1000 := by omega
        clear hk hz htl hn HDG0 hm
        go_enter Tryd.func30, Tryd.ntmps30
        go_wp2_with (first | (go_at_call 48; go_must (refine (HCU.out _).mono ?_); rintro e w1 ⟨rfl, rfl⟩) | (go_at_call 49; go_must (refine (HIN.out _).mono ?_); rintro e w1 ⟨rfl, rfl⟩) | (at_make; go_must (refine wpList_make_full _ rfl _ _ 22 rfl w.heap.size 5 i0 (.int .u8 0) 1 Tryd.underlying22 hi hz0 hz1 .i64 .i64 _ _ m rfl rfl rfl rfl (by rw [hz2]; omega) (by unfold maxLen; omega) (Nat.le_refl _) ?_); intro w1 ho1 hg1))
        rw [made_zeros] at ho1
        obtain ⟨g, hg⟩ : ∃ g, w.heap.size = g := ⟨_, rfl⟩
        have HO : Hid (Own w1 w.heap.size 5 (some ⟨g, 0, none⟩) m m (List.replicate m 0)) := by rw [← hg]; exact ho1
        have HB1 : Hid (Below w.heap.size w w1) := (Below.refl _ _).grown hg1 (Nat.le_refl _) (fun _ h => by cases h)
        clear ho1 hg1
        go_wp2
        go_loopw [29] (fun i wr => ∃ k : Nat, k ≤ m ∧ i = .int .i64 k ∧ Own wr w.heap.size 5 (some ⟨g, 0, none⟩) m m (dgTo t k) ∧ Below w.heap.size w wr) (fun i _ => m - (intOf i).toNat)
        case atStart => exact ⟨0, by omega, rfl, by rw [dgTo_zero, HM.out]; exact HO.out, HB1.out⟩
        case round =>
          obtain ⟨k, hk, rfl, ho, hb⟩ := hrel
          have HB := Lib.hid hb
          by_cases hlt : k < m
          · have hkt : k < t.length := by have := HM.out; omega
            obtain ⟨hk1, hk2, hk3⟩ := dgTo_at hkt
            have hc := ho.cell hk1
            have hf := ho.frozen k
            rw [hk2] at hc
            have HST := Lib.hid (ho.stored k (dgOf t[k]))
            obtain ⟨x, hx⟩ : ∃ x, (⟨t.toArray⟩ : ByteArray)[k]'(by rw [hs]; exact hlt) = x := ⟨_, rfl⟩
            have hx2 : t[k] = x := hx
            have hdx := HDG.out _ (List.getElem_mem hkt)
            rw [hk3] at HST
            rw [hx2] at hdx HST
            obtain ⟨n1, _, n3, n4⟩ := dgOf_num hdx
            rw [n1] at HST
            have hx0 : (0 : Int) ≤ k := by omega
            have hx1 : (k : Int) < m := by omega
            clear ho hb hk1 hk2 hk3 hdx n1 hx2
            go_wp2
            exact ⟨⟨k + 1, by omega, by go_num, HST.out, HB.out.setCell (p := ⟨g, k, none⟩) (by show w.heap.size ≤ g; omega) _⟩, by simp [intOf]; omega⟩
          · obtain rfl : k = m := by omega
            have HO2 := Lib.hid ho
            rw [dgTo_all (by have := HM.out; omega)] at HO2
            clear ho hb
            go_wp2_with (first | (go_at_call 47; go_must (refine (decimal_any _).mono ?_); rintro e w2 ⟨rfl, q2⟩) | (go_at_call 46; go_must (refine (octet_any _).mono ?_); rintro e w3 ⟨rfl, q3⟩) | (go_at_call 45; go_must (refine (converted_oct ((HO2.out.bs.below q2).below q3) (by omega) HCV.out).mono ?_); rintro e w4 ⟨a4, c4, r, rfl, hr1, hr2, hr3, hr4, hr5, hr6, q4⟩) | (go_at_call 24; go_must (refine (fromUnsigned_any hr1 (by omega)).mono ?_); rintro e w5 ⟨a5, c5, rfl, hu1, hu2, q5⟩))
            rw [hr4, HDV.out] at hu1
            rw [HDV.out]
            go_ret2
            exact ⟨a5, c5, rfl, hu1, bthen (bthen (bthen (bthen HB.out q2) q3) q4) q5⟩
    · by_cases h48 : restS l = [48]
      · rw [(p_bad0 hn h48).1, (p_bad0 hn h48).2]
        rw [hn] at HCU
        rw [h48] at HCU HIN
        clear hk hz h48 hn htl HDG0
        go_enter Tryd.func30, Tryd.ntmps30
        go_wp2_with (first | (go_at_call 48; go_must (refine (HCU.out _).mono ?_); rintro e w1 ⟨rfl, rfl⟩) | (go_at_call 49; go_must (refine (HIN.out _).mono ?_); rintro e w1 ⟨rfl, rfl⟩))
        go_ret2
        exact ⟨none, 0, rfl, Bs.nil_ _, Below.refl _ _⟩
      · rw [(p_neg hk hn h48).1, (p_neg hk hn h48).2]
        have HP := Lib.hid (dval_pos hk h48)
        rw [hn] at HCU
        have h48' : (restS l == [48]) = false := by simpa using h48
        generalize restS l = t at *
        obtain ⟨m, hm⟩ : ∃ m, t.length = m := ⟨_, rfl⟩
        have hs : (⟨t.toArray⟩ : ByteArray).size = m := by rw [← hm]; rfl
        have HM := Lib.hid hm
        have HDG : Hid (∀ x ∈ t, isD x = true) := by show ∀ x ∈ t, isD x = true; rw [List.all_eq_true] at HDG0; exact HDG0
        have HCV := Lib.hid (dg_all HDG0)
        have HDV : Hid (dgv 10 (t.map dgOf) = dval t) := (dval_dgv t).symm
        have hmz : m ≤ 1000 := by omega
        clear hk hz htl hn HDG0 hm h48
        go_enter Tryd.func30, Tryd.ntmps30
        go_wp2_with (first | (go_at_call 48; go_must (refine (HCU.out _).mono ?_); rintro e w1 ⟨rfl, rfl⟩) | (go_at_call 49; go_must (refine (HIN.out _).mono ?_); rintro e w1 ⟨rfl, rfl⟩) | (at_make; go_must (refine wpList_make_full _ rfl _ _ 22 rfl w.heap.size 5 i0 (.int .u8 0) 1 Tryd.underlying22 hi hz0 hz1 .i64 .i64 _ _ m rfl rfl rfl rfl (by rw [hz2]; omega) (by unfold maxLen; omega) (Nat.le_refl _) ?_); intro w1 ho1 hg1))
        rw [made_zeros] at ho1
        obtain ⟨g, hg⟩ : ∃ g, w.heap.size = g := ⟨_, rfl⟩
        have HO : Hid (Own w1 w.heap.size 5 (some ⟨g, 0, none⟩) m m (List.replicate m 0)) := by rw [← hg]; exact ho1
        have HB1 : Hid (Below w.heap.size w w1) := (Below.refl _ _).grown hg1 (Nat.le_refl _) (fun _ h => by cases h)
        clear ho1 hg1
        go_wp2
        go_loopw [29] (fun i wr => ∃ k : Nat, k ≤ m ∧ i = .int .i64 k ∧ Own wr w.heap.size 5 (some ⟨g, 0, none⟩) m m (dgTo t k) ∧ Below w.heap.size w wr) (fun i _ => m - (intOf i).toNat)
        case atStart => exact ⟨0, by omega, rfl, by rw [dgTo_zero, HM.out]; exact HO.out, HB1.out⟩
        case round =>
          obtain ⟨k, hk, rfl, ho, hb⟩ := hrel
          have HB := Lib.hid hb
          by_cases hlt : k < m
          · have hkt : k < t.length := by have := HM.out; omega
            obtain ⟨hk1, hk2, hk3⟩ := dgTo_at hkt
            have hc := ho.cell hk1
            have hf := ho.frozen k
            rw [hk2] at hc
            have HST := Lib.hid (ho.stored k (dgOf t[k]))
            obtain ⟨x, hx⟩ : ∃ x, (⟨t.toArray⟩ : ByteArray)[k]'(by rw [hs]; exact hlt) = x := ⟨_, rfl⟩
            have hx2 : t[k] = x := hx
            have hdx := HDG.out _ (List.getElem_mem hkt)
            rw [hk3] at HST
            rw [hx2] at hdx HST
            obtain ⟨n1, _, n3, n4⟩ := dgOf_num hdx
            rw [n1] at HST
            have hx0 : (0 : Int) ≤ k := by omega
            have hx1 : (k : Int) < m := by omega
            clear ho hb hk1 hk2 hk3 hdx n1 hx2
            go_wp2
            exact ⟨⟨k + 1, by omega, by go_num, HST.out, HB.out.setCell (p := ⟨g, k, none⟩) (by show w.heap.size ≤ g; omega) _⟩, by simp [intOf]; omega⟩
          · obtain rfl : k = m := by omega
            have HO2 := Lib.hid ho
            rw [dgTo_all (by have := HM.out; omega)] at HO2
            clear ho hb
            go_wp2_with (first | (go_at_call 47; go_must (refine (decimal_any _).mono ?_); rintro e w2 ⟨rfl, q2⟩) | (go_at_call 46; go_must (refine (octet_any _).mono ?_); rintro e w3 ⟨rfl, q3⟩) | (go_at_call 45; go_must (refine (converted_oct ((HO2.out.bs.below q2).below q3) (by omega) HCV.out).mono ?_); rintro e w4 ⟨a4, c4, r, rfl, hr1, hr2, hr3, hr4, hr5, hr6, q4⟩; rw [HDV.out] at hr4; have HR4 := Lib.hid hr4; clear hr4) | (go_at_call 24; go_must (refine (fromUnsigned_any hr1 (by omega)).mono ?_); rw [HR4.out]; rintro e w5 ⟨a5, c5, rfl, hu1, hu2, q5⟩))
            have hsl := senc_len_le r
            rw [HR4.out] at hsl
            refine (negated_any hu1 (by omega)).mono ?_
            rintro e w6 ⟨a6, c6, r', rfl, hn1, hn2, hn3, q6⟩
            have HST := Lib.hid (shortest_any hn1.bs)
            rw [neg_senc HP.out hn2 hn3] at HST
            clear hn1 hn2 hn3 hsl
            go_wp2_with fail
            refine HST.out.mono ?_
            rintro e w7 ⟨⟨a7, c7, rfl, hb7, _⟩, rfl⟩
            go_wp2_with fail
            go_ret2
            exact ⟨a7, c7, rfl, hb7, bthen (bthen (bthen (bthen (bthen HB.out q2) q3) q4) q5) q6⟩
end Go.Proofs.YtammegdfjgphkaaDoor
