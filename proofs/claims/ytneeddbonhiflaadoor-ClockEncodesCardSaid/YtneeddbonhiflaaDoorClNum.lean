/-
  Contract of the reference's number.
-/
import Derived.Test.YtneeddbonhiflaaDoorClEnc
import Derived.Deep.Cut
namespace Go.Proofs.YtneeddbonhiflaaDoor
open Go.RowKit

theorem wr_num {n : Int} (h : -9223372036854775808 ≤ n ∧ n ≤ 9223372036854775807) : IntKind.i64.wrap n = n := by rw [IntKind.wrap_i64]; omega
/-- the number in digits -/
def numO (l : List UInt8) : Nat := l.foldl (fun n x => n * 10 + x.toNat % 16) 0
theorem numO_snoc (l : List UInt8) (x : UInt8) : numO (l ++ [x]) = numO l * 10 + x.toNat % 16 := by unfold numO; rw [List.foldl_append]; rfl
theorem numO_len : ∀ (n : Nat) (l : List UInt8), l.length = n → numO l + 2 ≤ 2 * 10 ^ n
  | 0, l, h => by
    have := List.eq_nil_of_length_eq_zero h
    subst this
    decide
  | n + 1, l, h => by
    have hne : l ≠ [] := by intro e; subst e; cases h
    have e := (List.dropLast_concat_getLast hne).symm
    have hl : l.dropLast.length = n := by rw [List.length_dropLast, h]; rfl
    have ih := numO_len n l.dropLast hl
    rw [e, numO_snoc, Nat.pow_succ]
    omega
theorem numO_le (l : List UInt8) : numO l + 2 ≤ 2 * 10 ^ l.length := numO_len _ l rfl
theorem num_take (l : List UInt8) (p J : Nat) (hp : p ≤ J) (hJ : J < l.length) : numO ((l.drop p).take (J + 1 - p)) = numO ((l.drop p).take (J - p)) * 10 + l[J].toNat % 16 := by
  have e : J + 1 - p = (J - p) + 1 := by omega
  rw [e, List.take_succ_eq_append_getElem (by rw [List.length_drop]; omega), numO_snoc, List.getElem_drop]
  simp only [Nat.add_sub_cancel' hp]
theorem num_end (l : List UInt8) (p J k : Nat) (h : J = p + k ∨ l.length ≤ J) (hp : p ≤ J) (hk : J ≤ p + k) : (l.drop p).take (J - p) = (l.drop p).take k := by
  rcases h with rfl | h
  · rw [Nat.add_sub_cancel_left]
  · rw [List.take_of_length_le (by rw [List.length_drop]; omega), List.take_of_length_le (by rw [List.length_drop]; omega)]

set_option maxRecDepth 100000 in
set_option maxHeartbeats 4000000 in
theorem number_any {w : World} {a : Option Addr} {n c : Nat} {l : List UInt8} (hx : Bs w a n c l) (p k : Nat) (hp : p ≤ 20) (hk : k ≤ 4) :
    Calls Tryd.prog 33 #[.slice a n c, .int .i64 p, .int .i64 k] w fun e w' => e = .returned (.int .i64 (numO ((l.drop p).take k))) ∧ w' = w := by
  have HB := Lib.hid hx
  have hcm := hx.2.2.1
  have hnc := hx.2.1
  unfold maxLen at hcm
  clear hx
  have hs : IntKind.i64.wrap ((p : Int) + k) = (p : Int) + k := wr_num (by omega)
  go_enter Tryd.func33, Tryd.ntmps33
  go_wp2
  go_loop [7, 8] (fun v i => ∃ J : Nat, p ≤ J ∧ J ≤ p + k ∧ i = .int .i64 J ∧ v = .int .i64 (numO ((l.drop p).take (J - p)))) (fun _ i => p + k - (intOf i).toNat)
  case atStart => exact ⟨p, Nat.le_refl _, by omega, rfl, by rw [Nat.sub_self]; rfl⟩
  case round =>
    obtain ⟨J, hj1, hj2, rfl, rfl⟩ := hrel
    by_cases hlt : (J : Int) < p + k
    · by_cases hin : J < n
      · obtain ⟨b, off, hkl, rfl, _, hc⟩ := HB.out.at_ hin
        have HN := Lib.hid (num_take l p J hj1 hkl)
        have HL : Hid (numO ((l.drop p).take (J - p)) ≤ 20000) := by
          have := numO_le ((l.drop p).take (J - p))
          rw [List.length_take] at this
          have h2 : 10 ^ min (J - p) (l.drop p).length ≤ 10 ^ 4 := Nat.pow_le_pow_right (by omega) (by omega)
          have h3 : (10 : Nat) ^ 4 = 10000 := rfl
          rw [Hid]
          omega
        have HX := Lib.hid (l[J].toNat_lt)
        generalize l[J] = x at *
        generalize numO ((l.drop p).take (J - p)) = V at *
        obtain ⟨Q, hQ⟩ : ∃ Q : Nat, x.toNat % 16 = Q := ⟨_, rfl⟩
        have hQ16 : Q < 16 := by omega
        have hLo := HL.out
        have r1 : (x.toNat : Int).tmod 16 = (Q : Int) := by
          rw [Int.tmod_eq_emod_of_nonneg (by omega)]
          omega
        rw [hQ] at HN
        have h0 : (0 : Int) ≤ J := by omega
        have h1 : (J : Int) < n := by omega
        have v1 : IntKind.u8.wrap (Q : Int) = (Q : Int) := by rw [show IntKind.u8.wrap (Q : Int) = (Q : Int) % 256 from rfl]; omega
        have v2 : IntKind.i64.wrap (Q : Int) = (Q : Int) := wr_num (by omega)
        have v3 : IntKind.i64.wrap ((V : Int) * 10) = (V : Int) * 10 := wr_num (by omega)
        have v4 : IntKind.i64.wrap ((V : Int) * 10 + Q) = (V : Int) * 10 + Q := wr_num (by omega)
        have v5 : IntKind.i64.wrap ((J : Int) + 1) = (J : Int) + 1 := wr_num (by omega)
        clear hkl hQ HX HL hLo
        go_wp2
        refine ⟨⟨J + 1, by omega, by omega, by go_num, ?_⟩, by simp [intOf]; omega⟩
        have e := HN.out
        congr 1
        omega
      · have h1 : ¬ (J : Int) < n := by omega
        have HE := Lib.hid (num_end l p J k (.inr (by have := HB.out.len; omega)) hj1 hj2)
        go_wp2
        go_ret
        exact ⟨by rw [← HE.out]; rfl, rfl⟩
    · have HE := Lib.hid (num_end l p J k (.inl (by omega)) hj1 hj2)
      go_wp2
      go_ret
      exact ⟨by rw [← HE.out]; rfl, rfl⟩
end Go.Proofs.YtneeddbonhiflaaDoor
