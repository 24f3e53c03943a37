/-
  Contracts over the octets of an integer: Sign, of the program and of the reference.
-/
import Derived.Test.YtammegdfjgphkaaDoorIntValid
namespace Go.Proofs.YtammegdfjgphkaaDoor
open Go.RowKit

/-- the sign of valid contents octets, 0 of others -/
def sgI (l : List UInt8) : Int := if vI l = true then sgn (sval l) 0 else 0
theorem sgI_not {l : List UInt8} (h : vI l = false) : sgI l = 0 := by simp [sgI, h]
theorem sgI_neg {l : List UInt8} (h : vI l = true) (hh : hiB l = true) : sgI l = -1 := by
  have := (sval_nonneg_iff l).2 hh
  unfold sgI
  rw [if_pos h]
  unfold sgn
  rw [if_pos this]
theorem sval_pos {l : List UInt8} (h : vI l = true) (hh : hiB l = false) (h0 : l ≠ [0]) : 0 < sval l := by
  have hn : ¬ sval l < 0 := by
    rw [sval_nonneg_iff]
    simp [hh]
  rcases l with _ | ⟨x, _ | ⟨y, r⟩⟩
  · cases h
  · have hx : x.toNat ≠ 0 := fun e => h0 (by rw [UInt8.toNat_inj.1 (show x.toNat = (0 : UInt8).toNat from e)])
    have h8 : ¬ 128 ≤ x.toNat := by simpa [hiB] using hh
    rw [sval_one, if_neg h8]
    omega
  · have := sval_min h
    have hp := pow_pos256 r.length
    generalize 256 ^ r.length = P at *
    omega
theorem sgI_pos {l : List UInt8} (h : vI l = true) (hh : hiB l = false) (h0 : l ≠ [0]) : sgI l = 1 := by
  have := sval_pos h hh h0
  unfold sgI
  rw [if_pos h]
  unfold sgn
  rw [if_neg (by omega), if_pos (by omega)]
theorem sgI_zero : sgI [0] = 0 := by decide
theorem sgI_neg_iff {l : List UInt8} (h : vI l = true) : sgI l = -1 ↔ sval l < 0 := by
  unfold sgI sgn
  rw [if_pos h]
  split
  · simp [*]
  · split <;> simp [*] <;> omega
theorem sgI_bd (l : List UInt8) : -1 ≤ sgI l ∧ sgI l ≤ 1 := by
  unfold sgI
  split
  · exact sgn_bd _ _
  · omega

set_option maxRecDepth 100000 in
theorem sign_any {w : World} {a : Option Addr} {n c : Nat} {l : List UInt8} (h : Bs w a n c l) :
    Calls Tryd.prog 21 #[.slice a n c] w fun e w' => e = .returned (.int .i64 (sgI l)) ∧ w = w' := by
  have hl := h.len
  have HV := Lib.hid (valid_any h)
  rcases hv : vI l with _ | _
  · rw [hv] at HV
    rw [sgI_not hv]
    clear h hl hv
    go_enter Tryd.func21, Tryd.ntmps21
    go_wp2_with (go_at_call 19; go_must (refine HV.out.mono ?_); rintro e w' ⟨rfl, rfl⟩)
    go_ret
    exact ⟨rfl, rfl⟩
  · rw [hv] at HV
    rcases l with _ | ⟨x, r⟩
    · cases hv
    · simp only [List.length_cons] at hl
      obtain ⟨b, off, _, rfl, _, hc0⟩ := h.at_ (i := 0) (by omega)
      simp only [List.getElem_cons_zero, Nat.add_zero] at hc0
      have hx := byte_bd x
      have hn0 : 0 < n := by omega
      have hn0' : (0 : Int) < n := by omega
      have hh : hiB (x :: r) = decide (128 ≤ x.toNat) := rfl
      clear h
      by_cases h8 : 128 ≤ x.toNat
      · rw [sgI_neg hv (by rw [hh]; simpa using h8)]
        have h8' : 128 ≤ (x.toNat : Int) := by omega
        have hx0 : ((x.toNat : Int) == 0) = false := by simp; omega
        clear hl hv hh
        by_cases hn1 : n = 1
        · subst hn1
          go_enter Tryd.func21, Tryd.ntmps21
          go_wp2_with (go_at_call 19; go_must (refine HV.out.mono ?_); rintro e w' ⟨rfl, rfl⟩)
          go_ret
          exact ⟨rfl, rfl⟩
        · have hn1' : ((n : Int) == 1) = false := by simp; omega
          go_enter Tryd.func21, Tryd.ntmps21
          go_wp2_with (go_at_call 19; go_must (refine HV.out.mono ?_); rintro e w' ⟨rfl, rfl⟩)
          go_ret
          exact ⟨rfl, rfl⟩
      · have hb : hiB (x :: r) = false := by rw [hh]; simpa using h8
        have h8' : ¬ 128 ≤ (x.toNat : Int) := by omega
        by_cases hn1 : n = 1
        · have hr : r = [] := List.eq_nil_of_length_eq_zero (by omega)
          subst hr
          by_cases hx0 : x = 0
          · subst hx0
            rw [sgI_zero]
            have e0 : (((0 : UInt8).toNat : Nat) : Int) = 0 := rfl
            rw [e0] at hc0
            subst hn1
            clear hl hv hh hb hx h8 h8' e0
            go_enter Tryd.func21, Tryd.ntmps21
            go_wp2_with (go_at_call 19; go_must (refine HV.out.mono ?_); rintro e w' ⟨rfl, rfl⟩)
            go_ret
            exact ⟨rfl, rfl⟩
          · rw [sgI_pos hv hb (by simpa using hx0)]
            have hx1 : ((x.toNat : Int) == 0) = false := by
              rw [beq_eq_false_iff_ne]
              intro e
              exact hx0 (UInt8.toNat_inj.1 (by simpa using e))
            subst hn1
            clear hl hv hh hb hx0
            go_enter Tryd.func21, Tryd.ntmps21
            go_wp2_with (go_at_call 19; go_must (refine HV.out.mono ?_); rintro e w' ⟨rfl, rfl⟩)
            go_ret
            exact ⟨rfl, rfl⟩
        · rw [sgI_pos hv hb (by intro e; have := congrArg List.length e; simp only [List.length_cons, List.length_nil] at this; omega)]
          have hn1' : ((n : Int) == 1) = false := by simp; omega
          clear hl hv hh hb
          go_enter Tryd.func21, Tryd.ntmps21
          go_wp2_with (go_at_call 19; go_must (refine HV.out.mono ?_); rintro e w' ⟨rfl, rfl⟩)
          go_ret
          exact ⟨rfl, rfl⟩

theorem bit0 (x : UInt8) (r : List UInt8) : ((bitN (x :: r) 0 : Nat) : Int) = if hiB (x :: r) = true then 1 else 0 := by
  have hx := x.toNat_lt
  have e : bitN (x :: r) 0 = x.toNat / 128 % 2 := rfl
  rw [e]
  unfold hiB
  by_cases h : 128 ≤ x.toNat
  · rw [if_pos (by simpa using h)]; omega
  · rw [if_neg (by simpa using h)]; omega
/-- only [0] has no octet but zeros -/
theorem zeros_one {l : List UInt8} (h : vI l = true) (hz : l = List.replicate l.length 0) : l = [0] := by
  rcases l with _ | ⟨x, _ | ⟨y, r⟩⟩
  · cases h
  · simpa using hz
  · simp only [List.length_cons, List.replicate_succ, List.cons.injEq] at hz
    obtain ⟨rfl, rfl, _⟩ := hz
    cases h

set_option maxRecDepth 100000 in
set_option maxHeartbeats 1000000 in
theorem ref_sign_any {w : World} {a : Option Addr} {n c : Nat} {l : List UInt8} (h : Bs w a n c l) :
    Calls Tryd.prog 22 #[.slice a n c] w fun e w' => e = .returned (.int .i64 (sgI l)) ∧ w = w' := by
  have hl := h.len
  have HV := Lib.hid (ref_valid_any h)
  rcases hv : vI l with _ | _
  · rw [hv] at HV
    rw [sgI_not hv]
    clear h hl hv
    go_enter Tryd.func22, Tryd.ntmps22
    go_wp2_with (go_at_call 20; go_must (refine HV.out.mono ?_); rintro e w' ⟨rfl, rfl⟩)
    go_ret
    exact ⟨rfl, rfl⟩
  · rw [hv] at HV
    rcases l with _ | ⟨x, r⟩
    · cases hv
    · simp only [List.length_cons] at hl
      have HB := Lib.hid (bit_any (i := 0) h (by omega) (by omega))
      rw [bit0] at HB
      rcases hh : hiB (x :: r) with _ | _
      · rw [hh] at HB
        simp only [Bool.false_eq_true, if_false] at HB
        have HL := Lib.hid (show (x :: r).length = n by simpa using hl)
        have HP := Lib.hid (fun e => sgI_pos hv hh e)
        have HZ := Lib.hid (fun e => zeros_one hv e)
        have HS := Lib.hid h
        have hnm : n ≤ 9223372036854775807 := by have := h.2.1; have := h.2.2.1; unfold maxLen at this; omega
        generalize x :: r = l at *
        clear h hl hv hh
        go_enter Tryd.func22, Tryd.ntmps22
        go_wp2_with (first | (go_at_call 20; go_must (refine HV.out.mono ?_); rintro e w' ⟨rfl, rfl⟩) | (go_at_call 34; go_must (refine HB.out.mono ?_); rintro e w' ⟨rfl, rfl⟩))
        go_loop [3] (fun i => ∃ k : Nat, k ≤ n ∧ i = .int .i64 k ∧ l.take k = List.replicate k 0) (fun i => n - (intOf i).toNat)
        case atStart => exact ⟨0, by omega, rfl, rfl⟩
        case round =>
          obtain ⟨k, hk, rfl, ht⟩ := hrel
          have HT := Lib.hid ht
          clear ht
          by_cases hlt : k < n
          · have h0 : (0 : Int) ≤ k := by omega
            have h1 : (k : Int) < n := by omega
            obtain ⟨b, off, hkl, rfl, _, hc⟩ := HS.out.at_ hlt
            have HX := Lib.hid (List.take_succ_eq_append_getElem hkl)
            obtain ⟨x, hx⟩ : ∃ x, Hid (l[k] = x) := ⟨_, Lib.hid rfl⟩
            rw [hx.out] at hc HX
            by_cases hx0 : x = 0
            · subst hx0
              have e0 : (((0 : UInt8).toNat : Nat) : Int) = 0 := rfl
              rw [e0] at hc
              clear e0
              go_wp2
              exact ⟨⟨k + 1, by omega, by go_num, by rw [HX.out, HT.out, List.replicate_succ']⟩, by simp [intOf]; omega⟩
            · have hx1 : ((x.toNat : Int) != 0) = true := by
                rw [bne_iff_ne]
                intro e
                exact hx0 (UInt8.toNat_inj.1 (by simpa using e))
              have HX0 := Lib.hid hx0
              clear hx0
              go_wp2
              go_ret
              refine ⟨ret_int (HP.out ?_).symm, rfl⟩
              intro e
              have hk' := hkl
              have := hx.out
              subst e
              simp only [List.length_singleton] at hk'
              obtain rfl : k = 0 := by omega
              exact HX0.out (by rw [← this]; rfl)
          · have hkn : k = n := by omega
            go_wp2
            go_ret
            refine ⟨ret_int ?_, rfl⟩
            have e1 : l.take k = l := List.take_of_length_le (by have := HL.out; omega)
            have e2 := HT.out
            rw [e1, hkn, ← HL.out] at e2
            rw [HZ.out e2, sgI_zero]
      · rw [hh] at HB
        simp only [if_true] at HB
        rw [sgI_neg hv hh]
        clear h hl hv hh
        go_enter Tryd.func22, Tryd.ntmps22
        go_wp2_with (first | (go_at_call 20; go_must (refine HV.out.mono ?_); rintro e w' ⟨rfl, rfl⟩) | (go_at_call 34; go_must (refine HB.out.mono ?_); rintro e w' ⟨rfl, rfl⟩))
        go_ret
        exact ⟨rfl, rfl⟩
end Go.Proofs.YtammegdfjgphkaaDoor
