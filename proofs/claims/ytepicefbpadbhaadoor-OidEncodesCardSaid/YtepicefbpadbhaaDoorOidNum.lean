/-
  Contract of the reference's number.
-/
import Derived.Test.YtepicefbpadbhaaDoorOidDig
namespace Go.Proofs.YtepicefbpadbhaaDoor
open Go.RowKit

theorem dval_foldl (l : List UInt8) : ∀ n : Nat, n ≤ l.foldl (fun n x => n * 10 + (x.toNat - 48)) n := by
  induction l with
  | nil => intro n; exact Nat.le_refl _
  | cons x l ih => intro n; exact Nat.le_trans (show n ≤ n * 10 + (x.toNat - 48) by omega) (ih _)
theorem dval_take_le (t : List UInt8) (k : Nat) : dval (t.take k) ≤ dval t := by
  conv => rhs; rw [← List.take_append_drop k t]
  unfold dval
  rw [List.foldl_append]
  exact dval_foldl _ _
theorem arcOf_digits {t : List UInt8} (h : t.all isD = true) : (arcOf t).isSome = (decide (t ≠ []) && (decide (dval t ≤ maxArc) && decide (decN (dval t) = t))) := by
  unfold arcOf
  by_cases h1 : numOk t = true ∧ dval t ≤ maxArc
  · rw [if_pos h1]
    have h2 := decN_text h1.1
    have h3 : t ≠ [] := by
      rintro rfl
      exact decN_ne _ h2
    simp [h1.2, h2, h3]
  · rw [if_neg h1]
    symm
    simp only [Option.isSome_none, Bool.and_eq_false_iff, decide_eq_false_iff_not]
    by_cases h2 : dval t ≤ maxArc
    · refine .inr (.inr fun h3 => h1 ⟨numOk_of h h3, h2⟩)
    · exact .inr (.inl h2)
theorem arcOf_nil : arcOf [] = none := by
  unfold arcOf
  rw [if_neg]
  simp [numOk]
theorem arcOf_bad {t : List UInt8} {k : Nat} (hk : k < t.length) (h : isD t[k] = false) : arcOf t = none := by
  unfold arcOf
  rw [if_neg]
  rintro ⟨h1, _⟩
  have h2 := numOk_all h1
  rw [List.all_eq_true] at h2
  have h3 := h2 _ (List.getElem_mem hk)
  rw [h] at h3
  cases h3
theorem arcOf_far {t : List UInt8} {k : Nat} (h : maxArc < dval (t.take k)) : arcOf t = none := by
  unfold arcOf
  rw [if_neg]
  rintro ⟨_, h2⟩
  have := dval_take_le t k
  omega
theorem all_take_succ {t : List UInt8} {k : Nat} (hk : k < t.length) (h : (t.take k).all isD = true) (hx : isD t[k] = true) : (t.take (k + 1)).all isD = true := by
  rw [List.take_succ_eq_append_getElem hk, List.all_append, h]
  simp [hx]
theorem dval_take_succ {t : List UInt8} {k : Nat} (hk : k < t.length) : dval (t.take (k + 1)) = dval (t.take k) * 10 + (t[k].toNat - 48) := by
  rw [List.take_succ_eq_append_getElem hk, dval_snoc]
theorem arcOf_eq {t : List UInt8} {n : Nat} (h : arcOf t = some n) : n = dval t := (arcOf_some h).2.2
theorem str_nil_iff (l : List UInt8) : decide ((⟨l.toArray⟩ : ByteArray) = ⟨#[]⟩) = decide (l = []) := by
  apply decide_eq_decide.2
  constructor
  · intro h; exact str_inj (A := l) (B := []) h
  · rintro rfl; rfl

set_option maxRecDepth 100000 in
set_option maxHeartbeats 2000000 in
theorem number_any (w : World) (t : List UInt8) (hz : t.length ≤ 1000000) : Calls Tryd.prog 28 #[.string ⟨t.toArray⟩] w fun e w' => ∃ v : Nat, e = .returned (.tuple #[.int .u64 (v : Int), .bool (arcOf t).isSome]) ∧ (∀ n, arcOf t = some n → v = n) ∧ w = w' := by
  obtain ⟨m, hm⟩ : ∃ m, t.length = m := ⟨_, rfl⟩
  have hs : (⟨t.toArray⟩ : ByteArray).size = m := by rw [← hm]; rfl
  have HM := Lib.hid hm
  have hmz : (m : Int) ≤ 1000000 := by omega
  clear hm hz
  go_enter Tryd.func28, Tryd.ntmps28
  go_wp2_with fail
  go_loop [4, 5] (fun n i => ∃ k : Nat, ∃ N : Nat, k ≤ m ∧ i = .int .i64 k ∧ n = .int .u64 N ∧ Hid (N = dval (t.take k) ∧ (t.take k).all isD = true) ∧ N ≤ 42949672959) (fun _ i => m - (intOf i).toNat)
  case atStart => exact ⟨0, 0, Nat.zero_le _, rfl, rfl, ⟨by simp [dval], by simp⟩, by omega⟩
  case round =>
    obtain ⟨k, N, hk, rfl, rfl, hN, hNb⟩ := hrel
    have hk0 : (0 : Int) ≤ k := by omega
    have hN0 : (0 : Int) ≤ N := by omega
    have hNb2 : (N : Int) ≤ 42949672959 := by omega
    by_cases hlt : k < m
    · have hkt : k < t.length := by have := HM.out; omega
      have hk1 : (k : Int) < m := by omega
      obtain ⟨x, hx⟩ : ∃ x, (⟨t.toArray⟩ : ByteArray)[k]'(by rw [hs]; exact hlt) = x := ⟨_, rfl⟩
      have hx2 : t[k] = x := hx
      have hxb := byte_bd x
      by_cases hd : isD x = true
      · have hd2 := hd
        unfold isD at hd2
        simp only [Bool.and_eq_true, decide_eq_true_eq] at hd2
        have hx48 : ¬ (x.toNat : Int) < 48 := by omega
        have hx57 : ¬ (x.toNat : Int) > 57 := by omega
        have hx58 : (x.toNat : Int) ≤ 57 := by omega
        have hx47 : 48 ≤ (x.toNat : Int) := by omega
        by_cases hf : maxArc < N
        · have hA := Lib.hid (arcOf_far (t := t) (k := k) (by rw [← hN.1]; exact hf))
          unfold maxArc at hf
          have hf2 : (N : Int) > 4294967295 := by omega
          clear hf hd hd2 hx2
          go_wp2_with fail
          go_ret2
          exact ⟨0, by rw [hA.out]; rfl, fun n h => (by rw [hA.out] at h; cases h), rfl⟩
        · unfold maxArc at hf
          have hf2 : ¬ (N : Int) > 4294967295 := by omega
          have hS := Lib.hid (dval_take_succ hkt)
          have hS2 := Lib.hid (all_take_succ hkt hN.2 (by rw [hx2]; exact hd))
          rw [hx2] at hS
          have hN1 := Lib.hid hN.1
          clear hf hd hd2 hx2 hN
          have hNm : (N : Int) ≤ 4294967295 := by omega
          have hw1 : IntKind.u64.wrap ((N : Int) * 10) = ((N * 10 : Nat) : Int) := by rw [IntKind.wrap_u64]; omega
          obtain ⟨d, hd⟩ : ∃ d : Nat, x.toNat - 48 = d := ⟨_, rfl⟩
          have hd2 : (x.toNat : Int) - 48 = d := by omega
          have hd3 : (d : Int) ≤ 9 := by omega
          have hw2 : IntKind.u64.wrap (((N * 10 : Nat) : Int) + d) = ((N * 10 + d : Nat) : Int) := by rw [IntKind.wrap_u64]; omega
          go_wp2_with fail
          refine ⟨⟨k + 1, N * 10 + d, by omega, by go_num, by go_num, ⟨?_, hS2.out⟩, by omega⟩, by simp [intOf]; omega⟩
          rw [hS.out, ← hN1.out, hd]
      · have hd3 : isD x = false := by simpa using hd
        have hA := Lib.hid (arcOf_bad hkt (by rw [hx2]; exact hd3))
        unfold isD at hd3
        simp only [Bool.and_eq_false_iff, decide_eq_false_iff_not] at hd3
        clear hd hx2 hN
        by_cases h48 : (x.toNat : Int) < 48
        · go_wp2_with fail
          go_ret2
          exact ⟨0, by rw [hA.out]; rfl, fun n h => (by rw [hA.out] at h; cases h), rfl⟩
        · have h57 : (x.toNat : Int) > 57 := by omega
          go_wp2_with fail
          go_ret2
          exact ⟨0, by rw [hA.out]; rfl, fun n h => (by rw [hA.out] at h; cases h), rfl⟩
    · obtain rfl : k = m := by omega
      have hN2 := hN.1
      have hN3 := hN.2
      rw [List.take_of_length_le (by have := HM.out; omega)] at hN2 hN3
      have HE := Lib.hid (arcOf_digits hN3)
      have HV : Hid (∀ n, arcOf t = some n → N = n) := fun n h => by rw [hN2]; exact (arcOf_eq h).symm
      have HD := Lib.hid (digits_any N N (Nat.le_refl _) (by omega) w)
      rw [← hN2] at HE
      clear hN2 hN3 hN
      have he := str_nil_iff t
      clear he
      have hlt2 : ¬ (k : Int) < k := by omega
      have hsz := decN_size (show N ≤ 1000000000000 by omega)
      go_wp2_with fail
      · go_ret2
        exact ⟨N, by rw [arcOf_nil]; rfl, fun n h => (by rw [arcOf_nil] at h; cases h), rfl⟩
      · have h1 : (N : Int) ≤ 4294967295 := by omega
        have h1' : N ≤ maxArc := by unfold maxArc; omega
        refine HD.out.mono ?_
        rintro e w1 ⟨rfl, rfl⟩
        go_wp2
        go_ret2
        refine ⟨N, ?_, HV.out, rfl⟩
        rw [HE.out]
        simp only [h1', decide_true, Bool.true_and]
        cases t <;> simp [eqB_beq, eqB]
      · have h1 : (N : Int) > 4294967295 := by omega
        go_ret2
        refine ⟨N, ?_, HV.out, rfl⟩
        rw [HE.out]
        have h2 : ¬ N ≤ maxArc := by unfold maxArc; omega
        simp [h2]
end Go.Proofs.YtepicefbpadbhaaDoor
