/-
  Contracts: Compare, of the program and of the reference.
-/
import Derived.Test.YtammegdfjgphkaaDoorIntUns
import Derived.Test.YtammegdfjgphkaaDoorLexRef
import Derived.Laws.BitsAllLaws
namespace Go.Proofs.YtammegdfjgphkaaDoor
open Go.RowKit

/-- the length, with the sign -/
def slen (l : List UInt8) : Int := if hiB l = true then -(l.length : Int) else l.length
theorem sval_long {a b : List UInt8} (ha : a ≠ []) (hb : vI b = true) (hl : a.length < b.length) : (0 ≤ sval b → sval a < sval b) ∧ (sval b < 0 → sval b < sval a) := by
  match a, b, ha, hb, hl with
  | x :: a, y :: z :: b, _, hb, hl =>
    have h1 := sval_bd (x := x) (l := a)
    have h2 := sval_min hb
    simp only [List.length_cons] at hl
    have h3 := pow_mono256 (show a.length ≤ b.length by omega)
    generalize 256 ^ a.length = P at *
    generalize 256 ^ b.length = Q at *
    omega
  | _, [_], ha, _, hl => exact absurd (List.eq_nil_of_length_eq_zero (by simp only [List.length_singleton] at hl; omega)) ha
  | _, [], _, hb, _ => cases hb
theorem len_pos {l : List UInt8} (h : vI l = true) : 0 < l.length := by
  cases l with
  | nil => cases h
  | cons x l => simp
theorem cmp_slen {a b : List UInt8} (ha : vI a = true) (hb : vI b = true) : (slen a < slen b → sval a < sval b) ∧ (slen b < slen a → sval b < sval a) ∧ (slen a = slen b → lex a b = sgn (sval a) (sval b)) := by
  have na := sval_nonneg_iff a
  have nb := sval_nonneg_iff b
  have pa := len_pos ha
  have pb := len_pos hb
  have l1 := fun h => sval_long (vI_ne ha) hb (h : a.length < b.length)
  have l2 := fun h => sval_long (vI_ne hb) ha (h : b.length < a.length)
  have key : ∀ {a b : List UInt8}, hiB a = hiB b → a.length = b.length → lex a b = sgn (sval a) (sval b) := by
    intro a b hh hl
    rw [lex_num hl]
    unfold sval
    rw [hh, hl]
    unfold sgn
    split <;> split <;> (try split) <;> (try split) <;> omega
  unfold slen
  rcases h1 : hiB a with _ | _ <;> rcases h2 : hiB b with _ | _
  all_goals simp only [h1, h2, Bool.false_eq_true, if_false, if_true, iff_true, iff_false] at na nb ⊢
  · refine ⟨fun h => ?_, fun h => ?_, fun h => key (by rw [h1, h2]) (by omega)⟩
    · exact (l1 (by omega)).1 (by omega)
    · exact (l2 (by omega)).1 (by omega)
  · exact ⟨fun h => by omega, fun h => by omega, fun h => by omega⟩
  · exact ⟨fun h => by omega, fun h => by omega, fun h => by omega⟩
  · refine ⟨fun h => ?_, fun h => ?_, fun h => key (by rw [h1, h2]) (by omega)⟩
    · exact (l2 (by omega)).2 (by omega)
    · exact (l1 (by omega)).2 (by omega)
theorem cmp_by_len {a b : List UInt8} (ha : vI a = true) (hb : vI b = true) (h : sgn (slen a) (slen b) ≠ 0) : sgn (slen a) (slen b) = cmpI a b := by
  obtain ⟨h1, h2, _⟩ := cmp_slen ha hb
  unfold cmpI
  rw [if_pos ⟨ha, hb⟩]
  unfold sgn at *
  split at h
  · rename_i hlt
    rw [if_pos hlt, if_pos (h1 hlt)]
  · split at h
    · rename_i hn hlt
      have := h2 hlt
      rw [if_neg hn, if_pos hlt, if_neg (by omega), if_pos this]
    · exact absurd rfl h
theorem cmp_by_lex {a b : List UInt8} (ha : vI a = true) (hb : vI b = true) (h : sgn (slen a) (slen b) = 0) : lex a b = cmpI a b := by
  obtain ⟨_, _, h3⟩ := cmp_slen ha hb
  unfold cmpI
  rw [if_pos ⟨ha, hb⟩, h3 (sgn_zero h)]
theorem slen_bd {l : List UInt8} {n : Nat} (h : l.length = n) : -(n : Int) ≤ slen l ∧ slen l ≤ n := by
  unfold slen
  split <;> omega

/-- the closure signedLength -/
theorem slen_any {w : World} {a : Option Addr} {n c : Nat} {l : List UInt8} (h : Bs w a n c l) (hv : vI l = true) :
    Calls Tryd.prog 39 #[.slice a n c] w fun e w' => e = .returned (.int .i64 (slen l)) ∧ w = w' := by
  have hl := h.len
  have HG := Lib.hid (sign_any h)
  have hnm : (n : Int) ≤ 9223372036854775807 := by have := h.2.1; have := h.2.2.1; unfold maxLen at this; omega
  rcases hh : hiB l with _ | _
  · have hg0 := sg_ge hv hh
    have e : slen l = n := by unfold slen; rw [hh, hl]; rfl
    rw [e]
    generalize sgI l = g at *
    clear h hl hv hh e
    go_enter Tryd.func39, Tryd.ntmps39
    go_wp2_with (go_at_call 21; go_must (refine HG.out.mono ?_); rintro e w' ⟨rfl, rfl⟩)
    go_ret
    exact ⟨rfl, rfl⟩
  · rw [sgI_neg hv hh] at HG
    have e : slen l = -(n : Int) := by unfold slen; rw [hh, hl]; rfl
    rw [e]
    clear h hl hv hh e
    go_enter Tryd.func39, Tryd.ntmps39
    go_wp2_with (go_at_call 21; go_must (refine HG.out.mono ?_); rintro e w' ⟨rfl, rfl⟩)
    go_ret
    exact ⟨rfl, rfl⟩

theorem cmpI_not1 {a b : List UInt8} (h : vI a = false) : cmpI a b = 0 := by simp [cmpI, h]
theorem cmpI_not2 {a b : List UInt8} (h : vI b = false) : cmpI a b = 0 := by simp [cmpI, h]

set_option maxHeartbeats 1000000 in
theorem compareI_any {w : World} {a b : Option Addr} {n c m d : Nat} {xs ys : List UInt8} (hx : Bs w a n c xs) (hy : Bs w b m d ys) :
    Calls Tryd.prog 27 #[.slice a n c, .slice b m d] w fun e w' => e = .returned (.int .i64 (cmpI xs ys)) ∧ Below w.heap.size w w' := by
  have HV := Lib.hid (valid_any hx)
  have HW := Lib.hid (valid_any hy)
  rcases hv : vI xs with _ | _
  · rw [hv] at HV
    rw [cmpI_not1 hv]
    clear hx hy hv HW
    go_enter Tryd.func27, Tryd.ntmps27
    go_wp2_with (go_at_call 19; go_must (refine HV.out.mono ?_); rintro e w' ⟨rfl, rfl⟩)
    go_ret
    exact ⟨rfl, Below.refl _ _⟩
  · rw [hv] at HV
    rcases hv2 : vI ys with _ | _
    · rw [hv2] at HW
      rw [cmpI_not2 hv2]
      clear hx hy hv hv2
      go_enter Tryd.func27, Tryd.ntmps27
      go_wp2_with fail
      refine HV.out.mono ?_
      rintro e w' ⟨rfl, rfl⟩
      go_wp2_with fail
      refine HW.out.mono ?_
      rintro e w' ⟨rfl, rfl⟩
      go_wp2_with fail
      go_ret
      exact ⟨rfl, Below.refl _ _⟩
    · rw [hv2] at HW
      have HL := Lib.hid (slen_any hx hv)
      have HM := Lib.hid (slen_any hy hv2)
      have HC := Lib.hid (fun h => cmp_by_len hv hv2 h)
      have HD := Lib.hid (fun h => cmp_by_lex hv hv2 h)
      have HE := Lib.hid (compare_any hx hy)
      obtain ⟨x, hxs⟩ : ∃ x, slen xs = x := ⟨_, rfl⟩
      obtain ⟨y, hys⟩ : ∃ y, slen ys = y := ⟨_, rfl⟩
      rw [hxs] at HL HC HD
      rw [hys] at HM HC HD
      obtain ⟨z, hz⟩ : ∃ z, Hid (sgn x y = z) := ⟨_, Lib.hid rfl⟩
      rw [hz.out] at HC HD
      have HI := Lib.hid (fun w => cmp_i x y w)
      rw [hz.out] at HI
      clear hx hy hv hv2
      by_cases h0 : z = 0
      · have h0' : (z != 0) = false := by simp [h0]
        have HF := Lib.hid (HD.out h0)
        clear h0
        go_enter Tryd.func27, Tryd.ntmps27
        go_wp2_with fail
        refine HV.out.mono ?_
        rintro e w' ⟨rfl, rfl⟩
        go_wp2_with fail
        refine HW.out.mono ?_
        rintro e w' ⟨rfl, rfl⟩
        go_wp2_with fail
        refine HL.out.mono ?_
        rintro e w' ⟨rfl, rfl⟩
        go_wp2_with fail
        refine HM.out.mono ?_
        rintro e w' ⟨rfl, rfl⟩
        go_wp2_with fail
        refine (HI.out _).mono ?_
        rintro e w' ⟨rfl, rfl⟩
        go_wp2_with fail
        refine HE.out.mono ?_
        rintro e w' ⟨rfl, q⟩
        go_wp2_with fail
        go_ret
        exact ⟨ret_int HF.out, q⟩
      · have h0' : (z != 0) = true := by simp [h0]
        have HF := Lib.hid (HC.out h0)
        clear h0
        go_enter Tryd.func27, Tryd.ntmps27
        go_wp2_with fail
        refine HV.out.mono ?_
        rintro e w' ⟨rfl, rfl⟩
        go_wp2_with fail
        refine HW.out.mono ?_
        rintro e w' ⟨rfl, rfl⟩
        go_wp2_with fail
        refine HL.out.mono ?_
        rintro e w' ⟨rfl, rfl⟩
        go_wp2_with fail
        refine HM.out.mono ?_
        rintro e w' ⟨rfl, rfl⟩
        go_wp2_with fail
        refine (HI.out _).mono ?_
        rintro e w' ⟨rfl, rfl⟩
        go_wp2_with fail
        go_ret
        exact ⟨ret_int HF.out, Below.refl _ _⟩
end Go.Proofs.YtammegdfjgphkaaDoor
