/-
  Contracts: Int, of the program and of the reference.
-/
import Derived.Test.YtammegdfjgphkaaDoorIntSign
import Derived.Laws.Shifts
import Derived.Laws.BitsAllLaws
namespace Go.Proofs.YtammegdfjgphkaaDoor
open Go.RowKit

def intV (l : List UInt8) : Int := if vI l = true ∧ l.length ≤ 8 then sval l else 0
def intB (l : List UInt8) : Bool := vI l && decide (l.length ≤ 8)
def runI (l : List UInt8) (k : Nat) : Int := (l.take k).foldl (fun n x => n * 256 + (x.toNat : Int)) (if hiB l = true then -1 else 0)
theorem runI_zero (l : List UInt8) : runI l 0 = if hiB l = true then -1 else 0 := rfl
theorem runI_succ {l : List UInt8} {k : Nat} (h : k < l.length) : runI l (k + 1) = runI l k * 256 + (l[k].toNat : Int) := by
  unfold runI
  rw [List.take_succ_eq_append_getElem h, List.foldl_append]
  rfl
theorem runI_all {l : List UInt8} {k : Nat} (h : l.length ≤ k) : runI l k = sval l := by
  unfold runI
  rw [List.take_of_length_le h, sval_fold]
theorem runI_take (l : List UInt8) (k : Nat) : runI l (k + 1) = sval (l.take (k + 1)) := by
  have : hiB (l.take (k + 1)) = hiB l := by cases l <;> rfl
  rw [← sval_fold, this]
  rfl
theorem runI_bd (l : List UInt8) {k : Nat} (h : k ≤ 7) : -36028797018963968 ≤ runI l k ∧ runI l k < 36028797018963968 := by
  rcases k with _ | k
  · rw [runI_zero]
    split <;> omega
  · rw [runI_take]
    match hl : l.take (k + 1) with
    | [] => rw [sval_nil]; omega
    | x :: r =>
      have h1 := sval_bd (x := x) (l := r)
      have h2 : r.length ≤ 6 := by have := congrArg List.length hl; simp at this; omega
      have h3 := pow_mono256 h2
      have h4 : (256 : Nat) ^ 6 = 281474976710656 := by decide
      rw [h4] at h3
      generalize 256 ^ r.length = P at *
      omega
theorem i64_or8 {n : Int} {x : UInt8} (h1 : -36028797018963968 ≤ n) (h2 : n < 36028797018963968) : bits BinOp.or IntKind.i64 (n * 256) (x.toNat : Int) = n * 256 + x.toNat := by
  have hx := x.toNat_lt
  obtain ⟨A, hA⟩ : ∃ A : Nat, (A : Int) = (n % 72057594037927936) := ⟨(n % 72057594037927936).toNat, by omega⟩
  have e1 : (BitVec.ofInt 64 (n * 256)).toNat = 2 ^ 8 * A := by
    rw [BitVec.toNat_ofInt]
    omega
  have e2 : (BitVec.ofInt 64 (x.toNat : Int)).toNat = x.toNat := by
    rw [BitVec.toNat_ofInt]
    omega
  show IntKind.i64.wrap ((BitVec.ofInt 64 (n * 256) ||| BitVec.ofInt 64 (x.toNat : Int)).toNat : Int) = _
  rw [BitVec.toNat_or, e1, e2, ← Nat.two_pow_add_eq_or_of_lt (by omega), IntKind.wrap_i64]
  omega
theorem intV_ok {l : List UInt8} (h : vI l = true) (h8 : l.length ≤ 8) : intV l = sval l := by unfold intV; rw [if_pos ⟨h, h8⟩]
theorem intB_ok {l : List UInt8} (h : vI l = true) (h8 : l.length ≤ 8) : intB l = true := by simp [intB, h, h8]
theorem intV_not {l : List UInt8} (h : vI l = false) : intV l = 0 := by simp [intV, h]
theorem intB_not {l : List UInt8} (h : vI l = false) : intB l = false := by simp [intB, h]
theorem intV_long {l : List UInt8} (h : 8 < l.length) : intV l = 0 := by unfold intV; rw [if_neg (by omega)]
theorem intB_long {l : List UInt8} (h : 8 < l.length) : intB l = false := by simp [intB]; intro _; omega

set_option maxRecDepth 100000 in
set_option maxHeartbeats 1000000 in
theorem int_any {w : World} {a : Option Addr} {n c : Nat} {l : List UInt8} (h : Bs w a n c l) :
    Calls Tryd.prog 15 #[.slice a n c] w fun e w' => e = .returned (.tuple #[.int .i64 (intV l), .bool (intB l)]) ∧ w = w' := by
  have hl := h.len
  have HV := Lib.hid (valid_any h)
  have HG := Lib.hid (sign_any h)
  rcases hv : vI l with _ | _
  · rw [hv] at HV
    rw [intV_not hv, intB_not hv]
    clear h hl hv HG
    go_enter Tryd.func15, Tryd.ntmps15
    go_wp2_with (go_at_call 19; go_must (refine HV.out.mono ?_); rintro e w' ⟨rfl, rfl⟩)
    go_ret2
    exact ⟨rfl, rfl⟩
  · rw [hv] at HV
    by_cases h8 : 8 < n
    · rw [intV_long (by omega), intB_long (by omega)]
      have h8' : 8 < (n : Int) := by omega
      clear h hl hv HG
      go_enter Tryd.func15, Tryd.ntmps15
      go_wp2_with (go_at_call 19; go_must (refine HV.out.mono ?_); rintro e w' ⟨rfl, rfl⟩)
      go_ret2
      exact ⟨rfl, rfl⟩
    · rw [intV_ok hv (by omega), intB_ok hv (by omega)]
      have h8' : ¬ 8 < (n : Int) := by omega
      have HR := Lib.hid (runI_all (l := l) (k := n) (by omega))
      have HBD := Lib.hid (fun k (hk : k ≤ 7) => runI_bd l hk)
      have HS := Lib.hid h
      have HL := Lib.hid hl
      have H0 := Lib.hid (runI_zero l)
      by_cases hs : sval l < 0
      · have hhi := (sval_nonneg_iff l).1 hs
        rw [sgI_neg hv hhi] at HG
        have hr0 : Hid (runI l 0 = -1) := by show _ = _; rw [H0.out, hhi]; rfl
        clear h hl hv hs hhi H0
        go_enter Tryd.func15, Tryd.ntmps15
        go_wp2_with (first | (go_at_call 19; go_must (refine HV.out.mono ?_); rintro e w' ⟨rfl, rfl⟩) | (go_at_call 21; go_must (refine HG.out.mono ?_); rintro e w' ⟨rfl, rfl⟩))
        go_loop [4, 20] (fun v i => ∃ k : Nat, ∃ z : Int, k ≤ n ∧ i = .int .i64 k ∧ v = .int .i64 z ∧ z = runI l k) (fun _ i => n - (intOf i).toNat)
        case atStart => exact ⟨0, _, by omega, rfl, rfl, hr0.out.symm⟩
        case round =>
          obtain ⟨k, z, hk, rfl, rfl, hz⟩ := hrel
          have HZ := Lib.hid hz
          clear hz
          by_cases hlt : k < n
          · have h0 : (0 : Int) ≤ k := by omega
            have h1 : (k : Int) < n := by omega
            obtain ⟨b, off, hkl, rfl, _, hc⟩ := HS.out.at_ hlt
            have HX := Lib.hid (runI_succ hkl)
            obtain ⟨hz1, hz2⟩ : -36028797018963968 ≤ z ∧ z < 36028797018963968 := by rw [HZ.out]; exact HBD.out k (by omega)
            generalize l[k] = x at *
            have hxb := byte_bd x
            clear hkl
            go_wp2
            refine ⟨⟨k + 1, _, by omega, by go_num, rfl, by rw [i64_or8 hz1 hz2, HX.out, HZ.out]⟩, by simp [intOf]; omega⟩
          · have hkn : k = n := by omega
            subst hkn
            go_wp2
            go_ret2
            exact ⟨by rw [← HR.out, ← HZ.out]; rfl, rfl⟩
      · have hhi : hiB l = false := by
          rw [sval_nonneg_iff] at hs
          simpa using hs
        have hg0 : 0 ≤ sgI l := by
          have h1 : ¬ sgI l = -1 := fun e => hs ((sgI_neg_iff hv).1 e)
          have := (sgI_bd l).1
          omega
        generalize sgI l = g at *
        have hr0 : Hid (runI l 0 = 0) := by show _ = _; rw [H0.out, hhi]; rfl
        clear h hl hv hs hhi H0
        go_enter Tryd.func15, Tryd.ntmps15
        go_wp2_with (first | (go_at_call 19; go_must (refine HV.out.mono ?_); rintro e w' ⟨rfl, rfl⟩) | (go_at_call 21; go_must (refine HG.out.mono ?_); rintro e w' ⟨rfl, rfl⟩))
        go_loop [4, 20] (fun v i => ∃ k : Nat, ∃ z : Int, k ≤ n ∧ i = .int .i64 k ∧ v = .int .i64 z ∧ z = runI l k) (fun _ i => n - (intOf i).toNat)
        case atStart => exact ⟨0, _, by omega, rfl, rfl, hr0.out.symm⟩
        case round =>
          obtain ⟨k, z, hk, rfl, rfl, hz⟩ := hrel
          have HZ := Lib.hid hz
          clear hz
          by_cases hlt : k < n
          · have h0 : (0 : Int) ≤ k := by omega
            have h1 : (k : Int) < n := by omega
            obtain ⟨b, off, hkl, rfl, _, hc⟩ := HS.out.at_ hlt
            have HX := Lib.hid (runI_succ hkl)
            obtain ⟨hz1, hz2⟩ : -36028797018963968 ≤ z ∧ z < 36028797018963968 := by rw [HZ.out]; exact HBD.out k (by omega)
            generalize l[k] = x at *
            have hxb := byte_bd x
            clear hkl
            go_wp2
            refine ⟨⟨k + 1, _, by omega, by go_num, rfl, by rw [i64_or8 hz1 hz2, HX.out, HZ.out]⟩, by simp [intOf]; omega⟩
          · have hkn : k = n := by omega
            subst hkn
            go_wp2
            go_ret2
            exact ⟨by rw [← HR.out, ← HZ.out]; rfl, rfl⟩

set_option maxRecDepth 100000 in
set_option maxHeartbeats 1000000 in
theorem ref_int_any {w : World} {a : Option Addr} {n c : Nat} {l : List UInt8} (h : Bs w a n c l) :
    Calls Tryd.prog 16 #[.slice a n c] w fun e w' => e = .returned (.tuple #[.int .i64 (intV l), .bool (intB l)]) ∧ w = w' := by
  have hl := h.len
  have HV := Lib.hid (ref_valid_any h)
  rcases hv : vI l with _ | _
  · rw [hv] at HV
    rw [intV_not hv, intB_not hv]
    clear h hl hv
    go_enter Tryd.func16, Tryd.ntmps16
    go_wp2_with (go_at_call 20; go_must (refine HV.out.mono ?_); rintro e w' ⟨rfl, rfl⟩)
    go_ret2
    exact ⟨rfl, rfl⟩
  · rw [hv] at HV
    by_cases h8 : 8 < n
    · rw [intV_long (by omega), intB_long (by omega)]
      have h8' : 8 < (n : Int) := by omega
      clear h hl hv
      go_enter Tryd.func16, Tryd.ntmps16
      go_wp2_with (go_at_call 20; go_must (refine HV.out.mono ?_); rintro e w' ⟨rfl, rfl⟩)
      go_ret2
      exact ⟨rfl, rfl⟩
    · have hn0 : 0 < n := by
        rcases l with _ | ⟨x, r⟩
        · cases hv
        · simp only [List.length_cons] at hl; omega
      have HG := Lib.hid (bit_any (i := 0) h (by omega) (by omega))
      have hb0 : ((bitN l 0 : Nat) : Int) = if hiB l = true then 1 else 0 := by
        rcases l with _ | ⟨x, r⟩
        · cases hv
        · exact bit0 x r
      rw [hb0] at HG
      clear hb0
      rw [intV_ok hv (by omega), intB_ok hv (by omega)]
      have h8' : ¬ 8 < (n : Int) := by omega
      have HR := Lib.hid (runI_all (l := l) (k := n) (by omega))
      have HBD := Lib.hid (fun k (hk : k ≤ 7) => runI_bd l hk)
      have HS := Lib.hid h
      have HL := Lib.hid hl
      have H0 := Lib.hid (runI_zero l)
      by_cases hs : sval l < 0
      · have hhi := (sval_nonneg_iff l).1 hs
        rw [if_pos hhi] at HG
        have hr0 : Hid (runI l 0 = -1) := by show _ = _; rw [H0.out, hhi]; rfl
        clear h hl hv hs hhi H0
        go_enter Tryd.func16, Tryd.ntmps16
        go_wp2_with (first | (go_at_call 20; go_must (refine HV.out.mono ?_); rintro e w' ⟨rfl, rfl⟩) | (go_at_call 34; go_must (refine HG.out.mono ?_); rintro e w' ⟨rfl, rfl⟩))
        go_loop [4, 5] (fun v i => ∃ k : Nat, ∃ z : Int, k ≤ n ∧ i = .int .i64 k ∧ v = .int .i64 z ∧ z = runI l k) (fun _ i => n - (intOf i).toNat)
        case atStart => exact ⟨0, _, by omega, rfl, rfl, hr0.out.symm⟩
        case round =>
          obtain ⟨k, z, hk, rfl, rfl, hz⟩ := hrel
          have HZ := Lib.hid hz
          clear hz
          by_cases hlt : k < n
          · have h0 : (0 : Int) ≤ k := by omega
            have h1 : (k : Int) < n := by omega
            obtain ⟨b, off, hkl, rfl, _, hc⟩ := HS.out.at_ hlt
            have HX := Lib.hid (runI_succ hkl)
            obtain ⟨hz1, hz2⟩ : -36028797018963968 ≤ z ∧ z < 36028797018963968 := by rw [HZ.out]; exact HBD.out k (by omega)
            generalize l[k] = x at *
            have hxb := byte_bd x
            clear hkl
            go_wp2
            refine ⟨⟨k + 1, _, by omega, by go_num, rfl, by rw [HX.out, HZ.out]⟩, by simp [intOf]; omega⟩
          · have hkn : k = n := by omega
            subst hkn
            go_wp2
            go_ret2
            exact ⟨by rw [← HR.out, ← HZ.out]; rfl, rfl⟩
      · have hhi : hiB l = false := by
          rw [sval_nonneg_iff] at hs
          simpa using hs
        rw [hhi] at HG
        simp only [Bool.false_eq_true, if_false] at HG
        have hr0 : Hid (runI l 0 = 0) := by show _ = _; rw [H0.out, hhi]; rfl
        clear h hl hv hs hhi H0
        go_enter Tryd.func16, Tryd.ntmps16
        go_wp2_with (first | (go_at_call 20; go_must (refine HV.out.mono ?_); rintro e w' ⟨rfl, rfl⟩) | (go_at_call 34; go_must (refine HG.out.mono ?_); rintro e w' ⟨rfl, rfl⟩))
        go_loop [4, 5] (fun v i => ∃ k : Nat, ∃ z : Int, k ≤ n ∧ i = .int .i64 k ∧ v = .int .i64 z ∧ z = runI l k) (fun _ i => n - (intOf i).toNat)
        case atStart => exact ⟨0, _, by omega, rfl, rfl, hr0.out.symm⟩
        case round =>
          obtain ⟨k, z, hk, rfl, rfl, hz⟩ := hrel
          have HZ := Lib.hid hz
          clear hz
          by_cases hlt : k < n
          · have h0 : (0 : Int) ≤ k := by omega
            have h1 : (k : Int) < n := by omega
            obtain ⟨b, off, hkl, rfl, _, hc⟩ := HS.out.at_ hlt
            have HX := Lib.hid (runI_succ hkl)
            obtain ⟨hz1, hz2⟩ : -36028797018963968 ≤ z ∧ z < 36028797018963968 := by rw [HZ.out]; exact HBD.out k (by omega)
            generalize l[k] = x at *
            have hxb := byte_bd x
            clear hkl
            go_wp2
            refine ⟨⟨k + 1, _, by omega, by go_num, rfl, by rw [HX.out, HZ.out]⟩, by simp [intOf]; omega⟩
          · have hkn : k = n := by omega
            subst hkn
            go_wp2
            go_ret2
            exact ⟨by rw [← HR.out, ← HZ.out]; rfl, rfl⟩
end Go.Proofs.YtammegdfjgphkaaDoor
