/-
  Contract of the reference's Decimal.
-/
import Derived.Test.YtammegdfjgphkaaDoorIntSumW
import Derived.Test.YtammegdfjgphkaaDoorIntDecW
namespace Go.Proofs.YtammegdfjgphkaaDoor
open Go.RowKit

def strLen : Value → Nat | .string b => b.size | _ => 0
theorem str_size (T : List UInt8) : (⟨T.toArray⟩ : ByteArray).size = T.length := rfl
theorem sgI_senc (m : Nat) : sgI (senc (m : Int)) = if m = 0 then 0 else 1 := by
  unfold sgI sgn
  rw [if_pos (senc_valid _), senc_val]
  split
  · omega
  · split <;> split <;> omega
theorem decN_len (k : Nat) : ∀ N, N < 10 ^ k → (decN N).length ≤ k + 1 := by
  induction k with
  | zero =>
    intro N h
    rw [decN_small (by omega)]
    simp
  | succ k ih =>
    intro N h
    by_cases h10 : N < 10
    · rw [decN_small h10]; simp
    · rw [decN_big h10, List.length_append, List.length_singleton]
      have := ih (N / 10) (by rw [Nat.pow_succ] at h; omega)
      omega
theorem decN_len256 {N m : Nat} (h : N < 256 ^ m) : (decN N).length ≤ 3 * m + 1 := by
  refine decN_len (3 * m) _ (Nat.lt_of_lt_of_le h ?_)
  rw [Nat.pow_mul]
  exact Nat.pow_le_pow_left (by omega) m
theorem decSt_len {N m : Nat} {T : List UInt8} (h : DecSt N m T) : T.length ≤ (decN N).length ∧ ((T = [] ∨ m ≠ 0) → T.length < (decN N).length) := by
  have hp : ∀ n, 0 < (decN n).length := fun n => by
    have := (decN_ok n n (Nat.le_refl _)).2.2.1
    cases hq : decN n with
    | nil => exact absurd hq this
    | cons x r => simp
  rcases h with ⟨rfl, rfl⟩ | ⟨hT, h⟩
  · exact ⟨by simp, fun _ => by simpa using hp m⟩
  · by_cases hm : m = 0
    · rw [if_pos hm] at h
      rw [h]
      refine ⟨Nat.le_refl _, fun h0 => ?_⟩
      rcases h0 with h0 | h0
      · exact absurd h0 hT
      · exact absurd hm h0
    · rw [if_neg hm] at h
      rw [h, List.length_append]
      have := hp m
      exact ⟨by omega, fun _ => by omega⟩
theorem digit_str {R : Nat} (h : R < 10) : (⟨#[48, 49, 50, 51, 52, 53, 54, 55, 56, 57]⟩ : ByteArray).extract R (R + 1) = ⟨[UInt8.ofNat (48 + R)].toArray⟩ := by
  rcases R with _ | _ | _ | _ | _ | _ | _ | _ | _ | _ | R
  all_goals first | rfl | decide | omega

/-- the complement, some octets of it -/
def cplTo (l : List UInt8) (k : Nat) : List UInt8 := (l.take k).map cplB ++ l.drop k
theorem cplTo_zero (l : List UInt8) : cplTo l 0 = l := by simp [cplTo]
theorem cplTo_all {l : List UInt8} {k : Nat} (h : l.length ≤ k) : cplTo l k = l.map cplB := by
  unfold cplTo
  rw [List.take_of_length_le h, List.drop_of_length_le h, List.append_nil]
theorem cplTo_at {l : List UInt8} {k : Nat} (h : k < l.length) : ∃ h' : k < (cplTo l k).length, (cplTo l k)[k] = l[k] ∧ (cplTo l k).set k (cplB l[k]) = cplTo l (k + 1) := by
  have h' : k < (cplTo l k).length := by simp [cplTo]; omega
  have hl : ((l.take k).map cplB).length = k := by simp; omega
  have e : cplTo l k = (l.take k).map cplB ++ l[k] :: l.drop (k + 1) := by
    unfold cplTo
    rw [List.drop_eq_getElem_cons h]
  refine ⟨h', ?_, ?_⟩
  · have h2 : (cplTo l k)[k]? = some l[k] := by
      rw [e, List.getElem?_append_right (by omega), hl, Nat.sub_self]
      rfl
    rw [List.getElem?_eq_getElem h'] at h2
    exact Option.some.inj h2
  · rw [e, List.set_append_right _ _ (by omega), hl, Nat.sub_self, List.set_cons_zero]
    unfold cplTo
    rw [List.take_succ_eq_append_getElem h, List.map_append, List.append_assoc]
    rfl

set_option maxRecDepth 100000 in
set_option maxHeartbeats 8000000 in
theorem ref_dec_any {w : World} {a : Option Addr} {n c : Nat} {l : List UInt8} (h : Bs w a n c l) (hz : n ≤ 5000) :
    Calls Tryd.prog 32 #[.slice a n c] w fun e w' => e = .returned (.string ⟨(decS l).toArray⟩) ∧ Below w.heap.size w w' := by
  obtain ⟨i0, hi, hz0, hz1, hz2⟩ := info_parts info_u8
  have hl := h.len
  have HV := Lib.hid (ref_valid_any h)
  have HG := Lib.hid (fun w (h : Bs w a n c l) => ref_sign_any h)
  rcases hv : vI l with _ | _
  · rw [hv] at HV
    have e : decS l = [] := by simp [decS, hv]
    rw [e]
    clear h hl hv HG e
    go_enter Tryd.func32, Tryd.ntmps32
    go_wp2_with (go_at_call 20; go_must (refine HV.out.mono ?_); rintro e w' ⟨rfl, rfl⟩)
    go_ret
    exact ⟨rfl, Below.refl _ _⟩
  · rw [hv] at HV
    have HD : Hid (decS l = decI (sval l)) := by show _ = _; unfold decS; rw [if_pos hv]
    have HX := Lib.hid h
    have HL := Lib.hid hl
    rcases hh : hiB l with _ | _
    · have hg0 := sg_ge hv hh
      have HS : Hid (sval l = (bnum l : Int)) := by show _ = _; unfold sval; rw [hh]; simp
      generalize sgI l = gs at *
      clear h hl hv hh
      go_enter Tryd.func32, Tryd.ntmps32
      go_wp2_with (first | (go_at_call 20; go_must (refine HV.out.mono ?_); rintro e w' ⟨rfl, rfl⟩) | (at_builtin; go_must (refine wpList_app _ rfl _ _ 22 rfl w.heap.size 5 i0 Tryd.underlying22 hi hz0 hz1 hz2 (some ⟨w.heap.size, 0, none⟩) 0 0 [] rfl (own_made w _) a n c l rfl (HX.out.alloc _) ?c1 ?c2 ?_)))
      case c1 => omega
      case c2 => simp
      intro a1 c1 w1 ho1 hg1
      have HB : Hid (Below w.heap.size w w1) := (bal (Below.refl _ w) _).trans (app_below (own_made w _) hg1 (Nat.le_refl _) (by simp))
      have HO : Hid (Bs w1 a1 n c1 l) := by show Bs _ _ _ _ _; simpa using ho1.bs
      have HM : Hid (Mine w1 w.heap.size a1) := ho1.mine
      clear ho1 hg1
      have HG2 := Lib.hid (HG.out _ (HX.out.below HB.out))
      go_wp2_with (go_at_call 22; go_must (refine HG2.out.mono ?_); rintro e w' ⟨rfl, rfl⟩)
      --LOOP
      obtain ⟨N, hN⟩ : ∃ N, bnum l = N := ⟨_, rfl⟩
      have HN := Lib.hid hN
      have HNL : Hid ((decN N).length ≤ 20000) := by
        have := decN_len256 (bnum_lt l)
        rw [hN, HL.out] at this
        show _ ≤ _
        omega
      rw [hN] at HS
      obtain ⟨R0, hR0⟩ : ∃ R0, l = R0 := ⟨_, rfl⟩
      rw [hR0] at HO HN
      clear hN hR0
      obtain ⟨A, hA⟩ : ∃ A, a1 = A := ⟨_, rfl⟩
      obtain ⟨M, hM⟩ : ∃ M, n = M := ⟨_, rfl⟩
      obtain ⟨C, hC⟩ : ∃ C, c1 = C := ⟨_, rfl⟩
      rw [hA, hM, hC] at HO ⊢
      rw [hA] at HM
      have hMz : M ≤ 5001 := by omega
      clear hA hM hC
      go_loopw [6] (fun sv wr => ∃ L T, sv = .string ⟨T.toArray⟩ ∧ Bs wr A M C L ∧ Mine wr w.heap.size A ∧ DecSt N (bnum L) T ∧ Below w.heap.size w wr) (fun sv _ => (decN N).length - strLen sv)
      case atStart => exact ⟨R0, [], rfl, HO.out, HM.out, .inl ⟨rfl, HN.out⟩, HB.out⟩
      case round =>
        obtain ⟨L, T, rfl, hbs, hmn, hst, hb⟩ := hrel
        have HLL := Lib.hid hbs.len
        have HST0 := Lib.hid hst
        have hTl : T.length ≤ 20000 := Nat.le_trans (decSt_len hst).1 HNL.out
        rcases T with _ | ⟨t, ts⟩
        · have HDX := Lib.hid (decSt_step hst (.inl rfl))
          have HLX := Lib.hid ((decSt_len hst).2 (.inl rfl))
          have XBS := Lib.hid hbs
          have XMN := Lib.hid hmn
          have XBB := Lib.hid hb
          clear hbs hmn hst hb
          go_wp2
          have hL0 : bnum L < 256 ^ M := by rw [← HLL.out]; exact bnum_lt L
          go_loopw [7, 8] (fun rv i wr => ∃ k R : Nat, ∃ q, k ≤ M ∧ i = .int .i64 k ∧ rv = .int .i64 R ∧ Bs wr A M C (q ++ L.drop k) ∧ q.length = k ∧ bnum q * 10 + R = bnum (L.take k) ∧ R < 10 ∧ Mine wr w.heap.size A ∧ Below w.heap.size w wr) (fun _ i _ => M - (intOf i).toNat)
          case atStart => exact ⟨0, 0, [], by omega, rfl, rfl, XBS.out, rfl, rfl, by omega, XMN.out, XBB.out⟩
          case round =>
            obtain ⟨k, R, q, hk, rfl, rfl, hbs, hq, hv, hR, hmn, hb⟩ := hrel
            have HBI := Lib.hid hb
            have HMI := Lib.hid hmn
            have HVI := Lib.hid hv
            have HQI := Lib.hid hq
            have HBSI := Lib.hid hbs
            by_cases hlt : k < M
            · have hkL : k < L.length := by have := HLL.out; omega
              obtain ⟨b, off, hkl, hA, _, hc⟩ := hbs.at_ hlt
              obtain ⟨hf1, hf2, hf3⟩ := hmn _ hA
              have hf := hf3 (off + k)
              have ex : (q ++ L.drop k)[k] = L[k] := by
                have h2 : (q ++ L.drop k)[k]? = some L[k] := by
                  rw [List.getElem?_append_right (by omega), hq, Nat.sub_self, List.drop_eq_getElem_cons hkL]
                  rfl
                rw [List.getElem?_eq_getElem hkl] at h2
                exact Option.some.inj h2
              rw [ex] at hc
              have hds := fun y hy => div_step (y := y) hkL hv hR hy
              have hsm := fun y => set_mid q (L.drop (k + 1)) L[k] y
              rw [hq, ← List.drop_eq_getElem_cons hkL] at hsm
              subst hA
              have hst := fun y => bs_store hbs (j := k) y
              generalize L[k] = x at *
              have hxb := byte_bd x
              obtain ⟨V, hV⟩ : ∃ V, R * 256 + x.toNat = V := ⟨_, rfl⟩
              rw [hV] at hds
              have hV2 : (R : Int) * 256 + x.toNat = V := by omega
              have hVb : (V : Int) ≤ 2559 := by omega
              have hyv : (UInt8.ofNat (V / 10)).toNat = V / 10 := by rw [UInt8.toNat_ofNat']; omega
              have HST := Lib.hid (hst (UInt8.ofNat (V / 10)))
              rw [hsm, hyv] at HST
              have HDS := Lib.hid (hds _ hyv)
              have hk0 : (0 : Int) ≤ k := by omega
              have hk1 : (k : Int) < M := by omega
              have hR0 : (R : Int) < 10 := by omega
              have HF1 := Lib.hid hf1
              clear hb hmn hv hq hbs hf3 hf1 ex hds hsm hst hyv hkl hkL
              go_wp2
              refine ⟨⟨k + 1, V % 10, q ++ [UInt8.ofNat (V / 10)], by omega, by go_num, by first | rfl | (rw [Int.natCast_emod]; rfl), ?_, by rw [List.length_append, HQI.out]; rfl, HDS.out.1, by omega, HMI.out.setCell _ _, HBI.out.setCell (p := ⟨b, off + k, none⟩) HF1.out _⟩, by simp [intOf]; omega⟩
              have e := HST.out
              first | exact e | (rw [Int.natCast_ediv] at e; exact e)
            · obtain rfl : k = M := by omega
              have HBS2 := Lib.hid hbs
              rw [List.drop_of_length_le (by have := HLL.out; omega), List.append_nil] at HBS2
              have HV2 : Hid (bnum q = bnum L / 10 ∧ R = bnum L % 10) := by
                have e := HVI.out
                rw [List.take_of_length_le (by have := HLL.out; omega)] at e
                exact ⟨by omega, by omega⟩
              clear hb hmn hv hq hbs
              have hR1 : (R : Int) < 10 := by omega
              have hR2 : (0 : Int) ≤ R := by omega
              have hE : (⟨#[48, 49, 50, 51, 52, 53, 54, 55, 56, 57]⟩ : ByteArray).extract R (R + 1) ++ (⟨([] : List UInt8).toArray⟩ : ByteArray) = ⟨(UInt8.ofNat (48 + R) :: []).toArray⟩ := by
                rw [digit_str hR]
                exact str_app [UInt8.ofNat (48 + R)] []
              have HE := Lib.hid hE
              have HDN := Lib.hid HDX.out
              rw [← HV2.out.1, ← HV2.out.2] at HDN
              clear hE
              go_wp2
              refine ⟨⟨q, UInt8.ofNat (48 + R) :: [], congrArg Value.string HE.out, HBS2.out, HMI.out, HDN.out, HBI.out⟩, ?_⟩
              have e : strLen (Value.string ((⟨#[48, 49, 50, 51, 52, 53, 54, 55, 56, 57]⟩ : ByteArray).extract R (R + 1) ++ (⟨([] : List UInt8).toArray⟩ : ByteArray))) = ([] : List UInt8).length + 1 := by
                rw [HE.out]
                rfl
              have e2 : strLen (Value.string (⟨([] : List UInt8).toArray⟩ : ByteArray)) = ([] : List UInt8).length := rfl
              have h3 := HLX.out
              refine Nat.lt_of_lt_of_le (Nat.lt_of_le_of_lt (Nat.le_of_eq (congrArg ((decN N).length - ·) e)) ?_) (Nat.le_of_eq (congrArg ((decN N).length - ·) e2).symm)
              first | omega | (simp only [List.length_nil] at h3 ⊢; omega)
        · have hTl2 : ts.length + 1 ≤ 20000 := by simpa using hTl
          have HFU := Lib.hid (ref_fromUnsigned_any hbs (by omega))
          go_wp2_with fail
          with_reducible refine HFU.out.mono ?_
          rintro e w3 ⟨a3, c3, rfl, hb3, _, q3⟩
          have HSG := Lib.hid (ref_sign_any hb3)
          rw [sgI_senc] at HSG
          have XBS := Lib.hid (hbs.below q3)
          have XMN := Lib.hid (hmn.below q3)
          have XBB := Lib.hid (bthen hb q3)
          clear hbs hmn hst hb hb3 q3 HFU
          by_cases hz0 : bnum L = 0
          · rw [if_pos hz0] at HSG
            have HZ := Lib.hid hz0
            clear hz0
            go_wp2_with fail
            with_reducible refine HSG.out.mono ?_
            rintro e w4 ⟨rfl, rfl⟩
            go_wp2_with fail
            go_ret
            have e0 := HST0.out
            rw [HZ.out] at e0
            have e1 := decSt_end e0 (by simp)
            refine ⟨congrArg Ending.returned (congrArg Value.string ?_), XBB.out⟩
            refine (str_app [] (t :: ts)).trans ?_
            rw [HD.out, HS.out, decI_nat, e1]
            rfl
          · rw [if_neg hz0] at HSG
            have HDX := Lib.hid (decSt_step HST0.out (.inr hz0))
            have HLX := Lib.hid ((decSt_len HST0.out).2 (.inr hz0))
            clear hz0
            go_wp2_with fail
            with_reducible refine HSG.out.mono ?_
            rintro e w4 ⟨rfl, rfl⟩
            go_wp2_with fail
            have hL0 : bnum L < 256 ^ M := by rw [← HLL.out]; exact bnum_lt L
            go_loopw [7, 8] (fun rv i wr => ∃ k R : Nat, ∃ q, k ≤ M ∧ i = .int .i64 k ∧ rv = .int .i64 R ∧ Bs wr A M C (q ++ L.drop k) ∧ q.length = k ∧ bnum q * 10 + R = bnum (L.take k) ∧ R < 10 ∧ Mine wr w.heap.size A ∧ Below w.heap.size w wr) (fun _ i _ => M - (intOf i).toNat)
            case atStart => exact ⟨0, 0, [], by omega, rfl, rfl, XBS.out, rfl, rfl, by omega, XMN.out, XBB.out⟩
            case round =>
              obtain ⟨k, R, q, hk, rfl, rfl, hbs, hq, hv, hR, hmn, hb⟩ := hrel
              have HBI := Lib.hid hb
              have HMI := Lib.hid hmn
              have HVI := Lib.hid hv
              have HQI := Lib.hid hq
              have HBSI := Lib.hid hbs
              by_cases hlt : k < M
              · have hkL : k < L.length := by have := HLL.out; omega
                obtain ⟨b, off, hkl, hA, _, hc⟩ := hbs.at_ hlt
                obtain ⟨hf1, hf2, hf3⟩ := hmn _ hA
                have hf := hf3 (off + k)
                have ex : (q ++ L.drop k)[k] = L[k] := by
                  have h2 : (q ++ L.drop k)[k]? = some L[k] := by
                    rw [List.getElem?_append_right (by omega), hq, Nat.sub_self, List.drop_eq_getElem_cons hkL]
                    rfl
                  rw [List.getElem?_eq_getElem hkl] at h2
                  exact Option.some.inj h2
                rw [ex] at hc
                have hds := fun y hy => div_step (y := y) hkL hv hR hy
                have hsm := fun y => set_mid q (L.drop (k + 1)) L[k] y
                rw [hq, ← List.drop_eq_getElem_cons hkL] at hsm
                subst hA
                have hst := fun y => bs_store hbs (j := k) y
                generalize L[k] = x at *
                have hxb := byte_bd x
                obtain ⟨V, hV⟩ : ∃ V, R * 256 + x.toNat = V := ⟨_, rfl⟩
                rw [hV] at hds
                have hV2 : (R : Int) * 256 + x.toNat = V := by omega
                have hVb : (V : Int) ≤ 2559 := by omega
                have hyv : (UInt8.ofNat (V / 10)).toNat = V / 10 := by rw [UInt8.toNat_ofNat']; omega
                have HST := Lib.hid (hst (UInt8.ofNat (V / 10)))
                rw [hsm, hyv] at HST
                have HDS := Lib.hid (hds _ hyv)
                have hk0 : (0 : Int) ≤ k := by omega
                have hk1 : (k : Int) < M := by omega
                have hR0 : (R : Int) < 10 := by omega
                have HF1 := Lib.hid hf1
                clear hb hmn hv hq hbs hf3 hf1 ex hds hsm hst hyv hkl hkL
                go_wp2
                refine ⟨⟨k + 1, V % 10, q ++ [UInt8.ofNat (V / 10)], by omega, by go_num, by first | rfl | (rw [Int.natCast_emod]; rfl), ?_, by rw [List.length_append, HQI.out]; rfl, HDS.out.1, by omega, HMI.out.setCell _ _, HBI.out.setCell (p := ⟨b, off + k, none⟩) HF1.out _⟩, by simp [intOf]; omega⟩
                have e := HST.out
                first | exact e | (rw [Int.natCast_ediv] at e; exact e)
              · obtain rfl : k = M := by omega
                have HBS2 := Lib.hid hbs
                rw [List.drop_of_length_le (by have := HLL.out; omega), List.append_nil] at HBS2
                have HV2 : Hid (bnum q = bnum L / 10 ∧ R = bnum L % 10) := by
                  have e := HVI.out
                  rw [List.take_of_length_le (by have := HLL.out; omega)] at e
                  exact ⟨by omega, by omega⟩
                clear hb hmn hv hq hbs
                have hR1 : (R : Int) < 10 := by omega
                have hR2 : (0 : Int) ≤ R := by omega
                have hE : (⟨#[48, 49, 50, 51, 52, 53, 54, 55, 56, 57]⟩ : ByteArray).extract R (R + 1) ++ (⟨((t :: ts) : List UInt8).toArray⟩ : ByteArray) = ⟨(UInt8.ofNat (48 + R) :: (t :: ts)).toArray⟩ := by
                  rw [digit_str hR]
                  exact str_app [UInt8.ofNat (48 + R)] (t :: ts)
                have HE := Lib.hid hE
                have HDN := Lib.hid HDX.out
                rw [← HV2.out.1, ← HV2.out.2] at HDN
                clear hE
                go_wp2
                refine ⟨⟨q, UInt8.ofNat (48 + R) :: (t :: ts), congrArg Value.string HE.out, HBS2.out, HMI.out, HDN.out, HBI.out⟩, ?_⟩
                have e : strLen (Value.string ((⟨#[48, 49, 50, 51, 52, 53, 54, 55, 56, 57]⟩ : ByteArray).extract R (R + 1) ++ (⟨((t :: ts) : List UInt8).toArray⟩ : ByteArray))) = ((t :: ts) : List UInt8).length + 1 := by
                  rw [HE.out]
                  rfl
                have e2 : strLen (Value.string (⟨((t :: ts) : List UInt8).toArray⟩ : ByteArray)) = ((t :: ts) : List UInt8).length := rfl
                have h3 := HLX.out
                refine Nat.lt_of_lt_of_le (Nat.lt_of_le_of_lt (Nat.le_of_eq (congrArg ((decN N).length - ·) e)) ?_) (Nat.le_of_eq (congrArg ((decN N).length - ·) e2).symm)
                first | omega | (simp only [List.length_nil] at h3 ⊢; omega)
    · rw [sgI_neg hv hh] at HG
      have HS0 := Lib.hid (cpl_neg hh)
      have HNG := Lib.hid ((sval_nonneg_iff l).2 hh)
      clear h hl hv hh
      go_enter Tryd.func32, Tryd.ntmps32
      go_wp2_with (first | (go_at_call 20; go_must (refine HV.out.mono ?_); rintro e w' ⟨rfl, rfl⟩) | (at_builtin; go_must (refine wpList_app _ rfl _ _ 22 rfl w.heap.size 5 i0 Tryd.underlying22 hi hz0 hz1 hz2 (some ⟨w.heap.size, 0, none⟩) 0 0 [] rfl (own_made w _) a n c l rfl (HX.out.alloc _) ?c1 ?c2 ?_)))
      case c1 => omega
      case c2 => simp
      intro a1 c1 w1 ho1 hg1
      have HB : Hid (Below w.heap.size w w1) := (bal (Below.refl _ w) _).trans (app_below (own_made w _) hg1 (Nat.le_refl _) (by simp))
      have HO : Hid (Bs w1 a1 n c1 l) := by show Bs _ _ _ _ _; simpa using ho1.bs
      have HM : Hid (Mine w1 w.heap.size a1) := ho1.mine
      clear ho1 hg1
      have HG2 := Lib.hid (HG.out _ (HX.out.below HB.out))
      go_wp2_with (go_at_call 22; go_must (refine HG2.out.mono ?_); rintro e w' ⟨rfl, rfl⟩)
      go_loopw [5] (fun i wr => ∃ k : Nat, k ≤ n ∧ i = .int .i64 k ∧ Bs wr a1 n c1 (cplTo l k) ∧ Mine wr w.heap.size a1 ∧ Below w.heap.size w wr) (fun i _ => n - (intOf i).toNat)
      case atStart => exact ⟨0, by omega, rfl, by rw [cplTo_zero]; exact HO.out, HM.out, HB.out⟩
      case round =>
        obtain ⟨k, hk, rfl, hbs, hmn, hb⟩ := hrel
        have HBI := Lib.hid hb
        have HMI := Lib.hid hmn
        by_cases hlt : k < n
        · have hkL : k < l.length := by have := HL.out; omega
          obtain ⟨b, off, hkl, hA, _, hc⟩ := hbs.at_ hlt
          obtain ⟨hf1, hf2, hf3⟩ := hmn _ hA
          have hf := hf3 (off + k)
          obtain ⟨ht1, ht2, ht3⟩ := cplTo_at hkL
          rw [ht2] at hc
          subst hA
          have HST := Lib.hid (bs_store hbs (j := k) (cplB l[k]))
          rw [ht3] at HST
          have hcn := cplB_num l[k]
          generalize l[k] = x at *
          have hxb := byte_bd x
          have hcv : ((cplB x).toNat : Int) = 255 - (x.toNat : Int) := by omega
          rw [hcv] at HST
          have hk0 : (0 : Int) ≤ k := by omega
          have hk1 : (k : Int) < n := by omega
          have HF1 := Lib.hid hf1
          clear hb hmn hbs hf3 hf1 ht1 ht2 ht3 hcn hcv hkl hkL
          go_wp2
          exact ⟨⟨k + 1, by omega, by go_num, HST.out, HMI.out.setCell _ _, HBI.out.setCell (p := ⟨b, off + k, none⟩) HF1.out _⟩, by simp [intOf]; omega⟩
        · obtain rfl : k = n := by omega
          have HBS2 := Lib.hid hbs
          rw [cplTo_all (by have := HL.out; omega)] at HBS2
          have HPL := Lib.hid (plus_any HBS2.out (z := 1) (by omega) (by omega))
          rw [show (((1 : Nat)) : Int) = 1 from rfl] at HPL
          clear hb hmn hbs HO HM HB
          go_wp2_with fail
          with_reducible refine HPL.out.mono ?_
          rintro e w5 ⟨A, C, R0, rfl, hp1, hp2, hp3, hp4, hp5, _, q5⟩
          obtain ⟨M, hM⟩ : ∃ M, R0.length = M := ⟨_, rfl⟩
          rw [hM] at hp1 hp4 hp5 ⊢
          have HO := Lib.hid hp1
          have HM : Hid (Mine w5 w.heap.size A) := hp2.more HBI.out.size
          have HB : Hid (Below w.heap.size w w5) := bthen HBI.out q5
          have HRL : Hid (R0.length = M) := hM
          obtain ⟨N, hN⟩ : ∃ N, bnum R0 = N := ⟨_, rfl⟩
          have HN := Lib.hid hN
          have HS : Hid ((N : Int) = -(sval l)) := by show _ = _; rw [← hN, hp3]; exact HS0.out
          have HPN : Hid (0 < N) := by
            show _ < _
            have h1 := HS.out
            have h2 := HNG.out
            omega
          have HNL : Hid ((decN N).length ≤ 20000) := by
            have := decN_len256 (bnum_lt R0)
            rw [hN, hM] at this
            show _ ≤ _
            omega
          have hMz : M ≤ 5001 := by omega
          clear hp1 hp2 hp3 hp4 hp5 q5 hM hN HPL
          go_wp2
          go_loopw [6] (fun sv wr => ∃ L T, sv = .string ⟨T.toArray⟩ ∧ Bs wr A M C L ∧ Mine wr w.heap.size A ∧ DecSt N (bnum L) T ∧ Below w.heap.size w wr) (fun sv _ => (decN N).length - strLen sv)
          case atStart => exact ⟨R0, [], rfl, HO.out, HM.out, .inl ⟨rfl, HN.out⟩, HB.out⟩
          case round =>
            obtain ⟨L, T, rfl, hbs, hmn, hst, hb⟩ := hrel
            have HLL := Lib.hid hbs.len
            have HST0 := Lib.hid hst
            have hTl : T.length ≤ 20000 := Nat.le_trans (decSt_len hst).1 HNL.out
            rcases T with _ | ⟨t, ts⟩
            · have HDX := Lib.hid (decSt_step hst (.inl rfl))
              have HLX := Lib.hid ((decSt_len hst).2 (.inl rfl))
              have XBS := Lib.hid hbs
              have XMN := Lib.hid hmn
              have XBB := Lib.hid hb
              clear hbs hmn hst hb
              go_wp2
              have hL0 : bnum L < 256 ^ M := by rw [← HLL.out]; exact bnum_lt L
              go_loopw [7, 8] (fun rv i wr => ∃ k R : Nat, ∃ q, k ≤ M ∧ i = .int .i64 k ∧ rv = .int .i64 R ∧ Bs wr A M C (q ++ L.drop k) ∧ q.length = k ∧ bnum q * 10 + R = bnum (L.take k) ∧ R < 10 ∧ Mine wr w.heap.size A ∧ Below w.heap.size w wr) (fun _ i _ => M - (intOf i).toNat)
              case atStart => exact ⟨0, 0, [], by omega, rfl, rfl, XBS.out, rfl, rfl, by omega, XMN.out, XBB.out⟩
              case round =>
                obtain ⟨k, R, q, hk, rfl, rfl, hbs, hq, hv, hR, hmn, hb⟩ := hrel
                have HBI := Lib.hid hb
                have HMI := Lib.hid hmn
                have HVI := Lib.hid hv
                have HQI := Lib.hid hq
                have HBSI := Lib.hid hbs
                by_cases hlt : k < M
                · have hkL : k < L.length := by have := HLL.out; omega
                  obtain ⟨b, off, hkl, hA, _, hc⟩ := hbs.at_ hlt
                  obtain ⟨hf1, hf2, hf3⟩ := hmn _ hA
                  have hf := hf3 (off + k)
                  have ex : (q ++ L.drop k)[k] = L[k] := by
                    have h2 : (q ++ L.drop k)[k]? = some L[k] := by
                      rw [List.getElem?_append_right (by omega), hq, Nat.sub_self, List.drop_eq_getElem_cons hkL]
                      rfl
                    rw [List.getElem?_eq_getElem hkl] at h2
                    exact Option.some.inj h2
                  rw [ex] at hc
                  have hds := fun y hy => div_step (y := y) hkL hv hR hy
                  have hsm := fun y => set_mid q (L.drop (k + 1)) L[k] y
                  rw [hq, ← List.drop_eq_getElem_cons hkL] at hsm
                  subst hA
                  have hst := fun y => bs_store hbs (j := k) y
                  generalize L[k] = x at *
                  have hxb := byte_bd x
                  obtain ⟨V, hV⟩ : ∃ V, R * 256 + x.toNat = V := ⟨_, rfl⟩
                  rw [hV] at hds
                  have hV2 : (R : Int) * 256 + x.toNat = V := by omega
                  have hVb : (V : Int) ≤ 2559 := by omega
                  have hyv : (UInt8.ofNat (V / 10)).toNat = V / 10 := by rw [UInt8.toNat_ofNat']; omega
                  have HST := Lib.hid (hst (UInt8.ofNat (V / 10)))
                  rw [hsm, hyv] at HST
                  have HDS := Lib.hid (hds _ hyv)
                  have hk0 : (0 : Int) ≤ k := by omega
                  have hk1 : (k : Int) < M := by omega
                  have hR0 : (R : Int) < 10 := by omega
                  have HF1 := Lib.hid hf1
                  clear hb hmn hv hq hbs hf3 hf1 ex hds hsm hst hyv hkl hkL
                  go_wp2
                  refine ⟨⟨k + 1, V % 10, q ++ [UInt8.ofNat (V / 10)], by omega, by go_num, by first | rfl | (rw [Int.natCast_emod]; rfl), ?_, by rw [List.length_append, HQI.out]; rfl, HDS.out.1, by omega, HMI.out.setCell _ _, HBI.out.setCell (p := ⟨b, off + k, none⟩) HF1.out _⟩, by simp [intOf]; omega⟩
                  have e := HST.out
                  first | exact e | (rw [Int.natCast_ediv] at e; exact e)
                · obtain rfl : k = M := by omega
                  have HBS2 := Lib.hid hbs
                  rw [List.drop_of_length_le (by have := HLL.out; omega), List.append_nil] at HBS2
                  have HV2 : Hid (bnum q = bnum L / 10 ∧ R = bnum L % 10) := by
                    have e := HVI.out
                    rw [List.take_of_length_le (by have := HLL.out; omega)] at e
                    exact ⟨by omega, by omega⟩
                  clear hb hmn hv hq hbs
                  have hR1 : (R : Int) < 10 := by omega
                  have hR2 : (0 : Int) ≤ R := by omega
                  have hE : (⟨#[48, 49, 50, 51, 52, 53, 54, 55, 56, 57]⟩ : ByteArray).extract R (R + 1) ++ (⟨([] : List UInt8).toArray⟩ : ByteArray) = ⟨(UInt8.ofNat (48 + R) :: []).toArray⟩ := by
                    rw [digit_str hR]
                    exact str_app [UInt8.ofNat (48 + R)] []
                  have HE := Lib.hid hE
                  have HDN := Lib.hid HDX.out
                  rw [← HV2.out.1, ← HV2.out.2] at HDN
                  clear hE
                  go_wp2
                  refine ⟨⟨q, UInt8.ofNat (48 + R) :: [], congrArg Value.string HE.out, HBS2.out, HMI.out, HDN.out, HBI.out⟩, ?_⟩
                  have e : strLen (Value.string ((⟨#[48, 49, 50, 51, 52, 53, 54, 55, 56, 57]⟩ : ByteArray).extract R (R + 1) ++ (⟨([] : List UInt8).toArray⟩ : ByteArray))) = ([] : List UInt8).length + 1 := by
                    rw [HE.out]
                    rfl
                  have e2 : strLen (Value.string (⟨([] : List UInt8).toArray⟩ : ByteArray)) = ([] : List UInt8).length := rfl
                  have h3 := HLX.out
                  refine Nat.lt_of_lt_of_le (Nat.lt_of_le_of_lt (Nat.le_of_eq (congrArg ((decN N).length - ·) e)) ?_) (Nat.le_of_eq (congrArg ((decN N).length - ·) e2).symm)
                  first | omega | (simp only [List.length_nil] at h3 ⊢; omega)
            · have hTl2 : ts.length + 1 ≤ 20000 := by simpa using hTl
              have HFU := Lib.hid (ref_fromUnsigned_any hbs (by omega))
              go_wp2_with fail
              with_reducible refine HFU.out.mono ?_
              rintro e w3 ⟨a3, c3, rfl, hb3, _, q3⟩
              have HSG := Lib.hid (ref_sign_any hb3)
              rw [sgI_senc] at HSG
              have XBS := Lib.hid (hbs.below q3)
              have XMN := Lib.hid (hmn.below q3)
              have XBB := Lib.hid (bthen hb q3)
              clear hbs hmn hst hb hb3 q3 HFU
              by_cases hz0 : bnum L = 0
              · rw [if_pos hz0] at HSG
                have HZ := Lib.hid hz0
                clear hz0
                go_wp2_with fail
                with_reducible refine HSG.out.mono ?_
                rintro e w4 ⟨rfl, rfl⟩
                go_wp2_with fail
                go_ret
                have e0 := HST0.out
                rw [HZ.out] at e0
                have e1 := decSt_end e0 (by simp)
                refine ⟨congrArg Ending.returned (congrArg Value.string ?_), XBB.out⟩
                refine (str_app [45] (t :: ts)).trans ?_
                have hsv : sval l = -(N : Int) := by
                  have h1 := HS.out
                  omega
                rw [HD.out, hsv, decI_neg HPN.out, e1]
                rfl
              · rw [if_neg hz0] at HSG
                have HDX := Lib.hid (decSt_step HST0.out (.inr hz0))
                have HLX := Lib.hid ((decSt_len HST0.out).2 (.inr hz0))
                clear hz0
                go_wp2_with fail
                with_reducible refine HSG.out.mono ?_
                rintro e w4 ⟨rfl, rfl⟩
                go_wp2_with fail
                have hL0 : bnum L < 256 ^ M := by rw [← HLL.out]; exact bnum_lt L
                go_loopw [7, 8] (fun rv i wr => ∃ k R : Nat, ∃ q, k ≤ M ∧ i = .int .i64 k ∧ rv = .int .i64 R ∧ Bs wr A M C (q ++ L.drop k) ∧ q.length = k ∧ bnum q * 10 + R = bnum (L.take k) ∧ R < 10 ∧ Mine wr w.heap.size A ∧ Below w.heap.size w wr) (fun _ i _ => M - (intOf i).toNat)
                case atStart => exact ⟨0, 0, [], by omega, rfl, rfl, XBS.out, rfl, rfl, by omega, XMN.out, XBB.out⟩
                case round =>
                  obtain ⟨k, R, q, hk, rfl, rfl, hbs, hq, hv, hR, hmn, hb⟩ := hrel
                  have HBI := Lib.hid hb
                  have HMI := Lib.hid hmn
                  have HVI := Lib.hid hv
                  have HQI := Lib.hid hq
                  have HBSI := Lib.hid hbs
                  by_cases hlt : k < M
                  · have hkL : k < L.length := by have := HLL.out; omega
                    obtain ⟨b, off, hkl, hA, _, hc⟩ := hbs.at_ hlt
                    obtain ⟨hf1, hf2, hf3⟩ := hmn _ hA
                    have hf := hf3 (off + k)
                    have ex : (q ++ L.drop k)[k] = L[k] := by
                      have h2 : (q ++ L.drop k)[k]? = some L[k] := by
                        rw [List.getElem?_append_right (by omega), hq, Nat.sub_self, List.drop_eq_getElem_cons hkL]
                        rfl
                      rw [List.getElem?_eq_getElem hkl] at h2
                      exact Option.some.inj h2
                    rw [ex] at hc
                    have hds := fun y hy => div_step (y := y) hkL hv hR hy
                    have hsm := fun y => set_mid q (L.drop (k + 1)) L[k] y
                    rw [hq, ← List.drop_eq_getElem_cons hkL] at hsm
                    subst hA
                    have hst := fun y => bs_store hbs (j := k) y
                    generalize L[k] = x at *
                    have hxb := byte_bd x
                    obtain ⟨V, hV⟩ : ∃ V, R * 256 + x.toNat = V := ⟨_, rfl⟩
                    rw [hV] at hds
                    have hV2 : (R : Int) * 256 + x.toNat = V := by omega
                    have hVb : (V : Int) ≤ 2559 := by omega
                    have hyv : (UInt8.ofNat (V / 10)).toNat = V / 10 := by rw [UInt8.toNat_ofNat']; omega
                    have HST := Lib.hid (hst (UInt8.ofNat (V / 10)))
                    rw [hsm, hyv] at HST
                    have HDS := Lib.hid (hds _ hyv)
                    have hk0 : (0 : Int) ≤ k := by omega
                    have hk1 : (k : Int) < M := by omega
                    have hR0 : (R : Int) < 10 := by omega
                    have HF1 := Lib.hid hf1
                    clear hb hmn hv hq hbs hf3 hf1 ex hds hsm hst hyv hkl hkL
                    go_wp2
                    refine ⟨⟨k + 1, V % 10, q ++ [UInt8.ofNat (V / 10)], by omega, by go_num, by first | rfl | (rw [Int.natCast_emod]; rfl), ?_, by rw [List.length_append, HQI.out]; rfl, HDS.out.1, by omega, HMI.out.setCell _ _, HBI.out.setCell (p := ⟨b, off + k, none⟩) HF1.out _⟩, by simp [intOf]; omega⟩
                    have e := HST.out
                    first | exact e | (rw [Int.natCast_ediv] at e; exact e)
                  · obtain rfl : k = M := by omega
                    have HBS2 := Lib.hid hbs
                    rw [List.drop_of_length_le (by have := HLL.out; omega), List.append_nil] at HBS2
                    have HV2 : Hid (bnum q = bnum L / 10 ∧ R = bnum L % 10) := by
                      have e := HVI.out
                      rw [List.take_of_length_le (by have := HLL.out; omega)] at e
                      exact ⟨by omega, by omega⟩
                    clear hb hmn hv hq hbs
                    have hR1 : (R : Int) < 10 := by omega
                    have hR2 : (0 : Int) ≤ R := by omega
                    have hE : (⟨#[48, 49, 50, 51, 52, 53, 54, 55, 56, 57]⟩ : ByteArray).extract R (R + 1) ++ (⟨((t :: ts) : List UInt8).toArray⟩ : ByteArray) = ⟨(UInt8.ofNat (48 + R) :: (t :: ts)).toArray⟩ := by
                      rw [digit_str hR]
                      exact str_app [UInt8.ofNat (48 + R)] (t :: ts)
                    have HE := Lib.hid hE
                    have HDN := Lib.hid HDX.out
                    rw [← HV2.out.1, ← HV2.out.2] at HDN
                    clear hE
                    go_wp2
                    refine ⟨⟨q, UInt8.ofNat (48 + R) :: (t :: ts), congrArg Value.string HE.out, HBS2.out, HMI.out, HDN.out, HBI.out⟩, ?_⟩
                    have e : strLen (Value.string ((⟨#[48, 49, 50, 51, 52, 53, 54, 55, 56, 57]⟩ : ByteArray).extract R (R + 1) ++ (⟨((t :: ts) : List UInt8).toArray⟩ : ByteArray))) = ((t :: ts) : List UInt8).length + 1 := by
                      rw [HE.out]
                      rfl
                    have e2 : strLen (Value.string (⟨((t :: ts) : List UInt8).toArray⟩ : ByteArray)) = ((t :: ts) : List UInt8).length := rfl
                    have h3 := HLX.out
                    refine Nat.lt_of_lt_of_le (Nat.lt_of_le_of_lt (Nat.le_of_eq (congrArg ((decN N).length - ·) e)) ?_) (Nat.le_of_eq (congrArg ((decN N).length - ·) e2).symm)
                    first | omega | (simp only [List.length_nil] at h3 ⊢; omega)
end Go.Proofs.YtammegdfjgphkaaDoor
