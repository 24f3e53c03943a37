/-
  Contracts of slices.Compare, slices.Equal (at rows of 32-bit numbers), and of the law's comparison of two lists of arcs.
-/
import Derived.Test.YtepicefbpadbhaaDoorOidRight
import Derived.Test.YtepicefbpadbhaaDoorOidDecMath
namespace Go.Proofs.YtepicefbpadbhaaDoor
open Go.RowKit

def eqN (xs ys : List Nat) : Bool := decide (xs = ys)
theorem eqN_len {xs ys : List Nat} (h : xs.length ≠ ys.length) : eqN xs ys = false := by
  simp only [eqN, decide_eq_false_iff_not]
  exact fun e => h (congrArg List.length e)
theorem eqN_at {xs ys : List Nat} {k : Nat} (h1 : k < xs.length) (h2 : k < ys.length) (h : xs[k] ≠ ys[k]) : eqN xs ys = false := by
  simp only [eqN, decide_eq_false_iff_not]
  rintro rfl
  exact h rfl
theorem takeN_step {xs ys : List Nat} {k : Nat} (h1 : k < xs.length) (h2 : k < ys.length) (ht : xs.take k = ys.take k) (h : xs[k] = ys[k]) : xs.take (k + 1) = ys.take (k + 1) := by
  rw [List.take_succ_eq_append_getElem h1, List.take_succ_eq_append_getElem h2, ht, h]
theorem eqN_end {xs ys : List Nat} (hl : xs.length = ys.length) (ht : xs.take xs.length = ys.take xs.length) : eqN xs ys = true := by
  simp only [eqN, decide_eq_true_eq]
  rw [List.take_length, hl, List.take_length] at ht
  exact ht
theorem lexN_short {xs ys : List Nat} (ht : xs.take xs.length = ys.take xs.length) (hl : xs.length ≤ ys.length) : lexN xs ys = sgn (xs.length : Int) ys.length :=
  lexN_end xs ys (by rw [Nat.min_eq_left hl]; exact ht)
theorem lexN_long {xs ys : List Nat} (ht : xs.take ys.length = ys.take ys.length) (hl : ys.length ≤ xs.length) : lexN xs ys = sgn (xs.length : Int) ys.length :=
  lexN_end xs ys (by rw [Nat.min_eq_right hl]; exact ht)

theorem nan_u32 (x : Int) (w : World) : Calls Tryd.prog 52 #[.int .u32 x] w fun e w' => e = .returned (.bool false) ∧ w = w' := by
  go_enter Tryd.func52, Tryd.ntmps52
  go_wp2
  go_ret
  exact ⟨rfl, rfl⟩
theorem cmp_u32 (x y : Int) (w : World) : Calls Tryd.prog 42 #[.int .u32 x, .int .u32 y] w fun e w' => e = .returned (.int .i64 (sgn x y)) ∧ w = w' := by
  go_enter Tryd.func42, Tryd.ntmps42
  go_wp2_with (go_at_call 52; refine (nan_u32 _ _).mono ?_; rintro e w' ⟨rfl, rfl⟩)
  all_goals
    go_ret
    refine ⟨congrArg (fun z => Ending.returned (.int .i64 z)) ?_, rfl⟩
    unfold sgn
    (repeat split) <;> omega

set_option maxRecDepth 100000 in
set_option maxHeartbeats 2000000 in
theorem sliceCompare_any {w : World} {a b : Option Addr} {n c m d : Nat} {xs ys : List Nat} (hx : Uk .u32 w a n c xs) (hy : Uk .u32 w b m d ys) (hn : n ≤ 1000000) (hm : m ≤ 1000000) :
    Calls Tryd.prog 36 #[.slice a n c, .slice b m d] w fun e w' => e = .returned (.int .i64 (lexN xs ys)) ∧ w = w' := by
  have HX := Lib.hid hx
  have HY := Lib.hid hy
  have LX := Lib.hid hx.1
  have LY := Lib.hid hy.1
  have hn2 : (n : Int) ≤ 1000000 := by omega
  have hm2 : (m : Int) ≤ 1000000 := by omega
  clear hx hy
  go_enter Tryd.func36, Tryd.ntmps36
  go_wp2_with fail
  go_loop [11] (fun i => ∃ k : Nat, k ≤ n ∧ k ≤ m ∧ i = .int .i64 k ∧ Hid (xs.take k = ys.take k)) (fun i => n - (intOf i).toNat)
  case atStart => exact ⟨0, Nat.zero_le _, Nat.zero_le _, rfl, rfl⟩
  case round =>
    obtain ⟨k, hk, hkm, rfl, HT⟩ := hrel
    have hk0 : (0 : Int) ≤ k := by omega
    by_cases hlt : k < n
    · have hlt2 : (k : Int) < n := by omega
      have hkx : k < xs.length := by have := LX.out; omega
      obtain ⟨b1, o1, hkx', rfl, _, hc1⟩ := HX.out.at_ hlt
      obtain ⟨x, hxx⟩ : ∃ x, xs[k]'hkx = x := ⟨_, rfl⟩
      rw [hxx] at hc1
      by_cases hlm : k < m
      · have hlm2 : ¬ (k : Int) ≥ m := by omega
        have hlm3 : (k : Int) < m := by omega
        have hky : k < ys.length := by have := LY.out; omega
        obtain ⟨b2, o2, hky', rfl, _, hc2⟩ := HY.out.at_ hlm
        obtain ⟨y, hyy⟩ : ∃ y, ys[k]'hky = y := ⟨_, rfl⟩
        rw [hyy] at hc2
        have HC := Lib.hid (cmp_u32 x y w)
        by_cases he : x = y
        · have HS := Lib.hid (takeN_step hkx hky HT.out (by rw [hxx, hyy]; exact he))
          rw [he, sgn_self] at HC
          rw [he] at hc1
          clear hxx hyy he hkx' hky'
          go_wp2_with fail
          refine HC.out.mono ?_
          rintro e w2 ⟨rfl, rfl⟩
          go_wp2
          exact ⟨⟨k + 1, by omega, by omega, by go_num, HS.out⟩, by simp [intOf]; omega⟩
        · have HL := Lib.hid (lexN_at k xs ys HT.out hkx hky (by rw [hxx, hyy]; exact he))
          rw [hxx, hyy] at HL
          obtain ⟨z, hz⟩ : ∃ z, sgn (x : Int) y = z := ⟨_, rfl⟩
          have hz0 : (z == 0) = false := by
            simp only [beq_eq_false_iff_ne]
            rw [← hz]
            intro h
            have := sgn_zero h
            omega
          have hz1 : (z != 0) = true := by simp [bne, hz0]
          have hz2 : ¬ z = 0 := by simpa using hz0
          rw [hz] at HC HL
          clear hxx hyy he hkx' hky' hz
          go_wp2_with fail
          refine HC.out.mono ?_
          rintro e w2 ⟨rfl, rfl⟩
          go_wp2
          go_ret
          exact ⟨by rw [HL.out]; rfl, rfl⟩
      · have hlm2 : (k : Int) ≥ m := by omega
        obtain rfl : k = m := by omega
        have HL := Lib.hid (lexN_long (xs := xs) (ys := ys) (by have h := HT.out; rw [LY.out]; exact h) (by have := LX.out; have := LY.out; omega))
        have HV : Hid (sgn (xs.length : Int) ys.length = 1) := by
          show sgn _ _ = 1
          unfold sgn
          have := LX.out; have := LY.out
          rw [if_neg (by omega), if_pos (by omega)]
        clear hxx hkx'
        go_wp2_with fail
        go_ret
        exact ⟨by rw [HL.out, HV.out]; rfl, rfl⟩
    · obtain rfl : k = n := by omega
      have hlt2 : ¬ (k : Int) < k := by omega
      have HL := Lib.hid (lexN_short (xs := xs) (ys := ys) (by have h := HT.out; rw [LX.out]; exact h) (by have := LX.out; have := LY.out; omega))
      by_cases hlm : k < m
      · have hlm2 : (k : Int) < m := by omega
        have HV : Hid (sgn (xs.length : Int) ys.length = -1) := by
          show sgn _ _ = -1
          unfold sgn
          have := LX.out; have := LY.out
          rw [if_pos (by omega)]
        go_wp2_with fail
        go_ret
        exact ⟨by rw [HL.out, HV.out]; rfl, rfl⟩
      · have hlm2 : ¬ (k : Int) < m := by omega
        have HV : Hid (sgn (xs.length : Int) ys.length = 0) := by
          show sgn _ _ = 0
          unfold sgn
          have := LX.out; have := LY.out
          rw [if_neg (by omega), if_neg (by omega)]
        go_wp2_with fail
        go_ret
        exact ⟨by rw [HL.out, HV.out]; rfl, rfl⟩

set_option maxRecDepth 100000 in
set_option maxHeartbeats 2000000 in
theorem sliceEqual_any {w : World} {a b : Option Addr} {n c m d : Nat} {xs ys : List Nat} (hx : Uk .u32 w a n c xs) (hy : Uk .u32 w b m d ys) (hn : n ≤ 1000000) (hm : m ≤ 1000000) :
    Calls Tryd.prog 37 #[.slice a n c, .slice b m d] w fun e w' => e = .returned (.bool (eqN xs ys)) ∧ ∃ q, w' = w.drewN q := by
  have HX := Lib.hid hx
  have HY := Lib.hid hy
  have LX := Lib.hid hx.1
  have LY := Lib.hid hy.1
  have hn2 : (n : Int) ≤ 1000000 := by omega
  have hm2 : (m : Int) ≤ 1000000 := by omega
  clear hx hy
  by_cases hnm : n = m
  · subst hnm
    go_enter Tryd.func37, Tryd.ntmps37
    go_wp2_with fail
    go_loopw [13] (fun i wr => ∃ k q : Nat, k ≤ n ∧ i = .int .i64 k ∧ Hid (xs.take k = ys.take k) ∧ wr = w.drewN q) (fun i _ => n - (intOf i).toNat)
    case atStart => exact ⟨0, 0, Nat.zero_le _, rfl, rfl, rfl⟩
    case round =>
      obtain ⟨k, q, hk, rfl, HT, rfl⟩ := hrel
      have hk0 : (0 : Int) ≤ k := by omega
      by_cases hlt : k < n
      · have hlt2 : (k : Int) < n := by omega
        have hkx : k < xs.length := by have := LX.out; omega
        have hky : k < ys.length := by have := LY.out; omega
        obtain ⟨b1, o1, hkx', rfl, _, hc1⟩ := HX.out.at_ hlt
        obtain ⟨b2, o2, hky', rfl, _, hc2⟩ := HY.out.at_ hlt
        obtain ⟨x, hxx⟩ : ∃ x, xs[k]'hkx = x := ⟨_, rfl⟩
        obtain ⟨y, hyy⟩ : ∃ y, ys[k]'hky = y := ⟨_, rfl⟩
        rw [hxx] at hc1
        rw [hyy] at hc2
        by_cases he : x = y
        · have HS := Lib.hid (takeN_step hkx hky HT.out (by rw [hxx, hyy]; exact he))
          have hne : ((x : Int) != y) = false := by simp [he]
          have hne2 : (x : Int) = y := by omega
          clear hxx hyy he hkx' hky'
          go_wp2_with fail
          go_quiet (fail)
          go_wp2
          go_roundw
          case rel => exact ⟨k + 1, _, by omega, by go_num, HS.out, rfl⟩
          case measure => simp [intOf]; omega
        · have HE := Lib.hid (eqN_at hkx hky (by rw [hxx, hyy]; exact he))
          have hne : ((x : Int) != y) = true := by simp; omega
          have hne2 : ¬ (x : Int) = y := by omega
          clear hxx hyy he hkx' hky'
          go_wp2_with fail
          go_quiet (fail)
          go_wp2
          go_ret
          exact ⟨by rw [HE.out]; rfl, by simp only [World.drewN_drewN]; exact ⟨_, rfl⟩⟩
      · obtain rfl : k = n := by omega
        have hlt2 : ¬ (k : Int) < k := by omega
        have HE := Lib.hid (eqN_end (xs := xs) (ys := ys) (by rw [LX.out, LY.out]) (by rw [LX.out]; exact HT.out))
        go_wp2_with fail
        go_ret
        exact ⟨by rw [HE.out]; rfl, _, rfl⟩
  · have HE := Lib.hid (eqN_len (xs := xs) (ys := ys) (by rw [LX.out, LY.out]; exact hnm))
    have hnm2 : ¬ (n : Int) = m := by omega
    go_enter Tryd.func37, Tryd.ntmps37
    go_wp2_with fail
    go_ret
    exact ⟨by rw [HE.out]; rfl, 0, rfl⟩
end Go.Proofs.YtepicefbpadbhaaDoor
