/-
  Contract of the program's Fold: cut at both ends, then written octet by octet.
-/
import Derived.Test.YtkmpmphabohkkaaDoorChBld
import Derived.Test.YtkmpmphabohkkaaDoorChFold
import Derived.Test.YtkmpmphabohkkaaDoorShelf
namespace Go.Proofs.YtkmpmphabohkkaaDoor
open Go.RowKit

/-! ### plain: what is cut off makes no difference; one space is written as soon as it is met -/
theorem fold_any_sp : ∀ (l : List UInt8) (b : Bool), (l.foldl stepF (b, [])).2 = (l.foldl stepF (false, [])).2
  | [], _ => rfl
  | x :: l, b => by
    by_cases hx : x = 32
    · subst hx
      rw [List.foldl_cons, List.foldl_cons, stepF_sp, stepF_sp]
    · rw [List.foldl_cons, List.foldl_cons, stepF_no hx (by simp), stepF_no hx (by simp)]
theorem fold_front : ∀ l : List UInt8, foldT (l.dropWhile (· == 32)) = foldT l
  | [] => rfl
  | x :: l => by
    by_cases hx : x = 32
    · subst hx
      rw [List.dropWhile_cons_of_pos (by rfl), fold_front l]
      unfold foldT
      rw [List.foldl_cons, stepF_sp]
      exact (fold_any_sp l true).symm
    · rw [List.dropWhile_cons_of_neg (by simpa using hx)]
theorem fold_back : ∀ r : List UInt8, foldT (r.dropWhile (· == 32)).reverse = foldT r.reverse
  | [] => rfl
  | x :: r => by
    by_cases hx : x = 32
    · subst hx
      rw [List.dropWhile_cons_of_pos (by rfl), fold_back r, List.reverse_cons]
      unfold foldT
      rw [foldF_snoc]
      show _ = (stepF ((r.reverse.foldl stepF (false, [])).1, (r.reverse.foldl stepF (false, [])).2) 32).2
      rw [stepF_sp]
    · rw [List.dropWhile_cons_of_neg (by simpa using hx)]
theorem fold_trim (s : List UInt8) : foldT (Lib.trimB s 32) = foldT s := by
  unfold Lib.trimB Lib.trimLeftB Lib.trimRightB
  rw [fold_front, fold_back, List.reverse_reverse]
theorem dw_head : ∀ (l : List UInt8) {x : UInt8} {r : List UInt8}, l.dropWhile (· == 32) = x :: r → x ≠ 32
  | [], _, _, h => by cases h
  | y :: l, x, r, h => by
    by_cases hy : y = 32
    · subst hy
      rw [List.dropWhile_cons_of_pos (by rfl)] at h
      exact dw_head l h
    · rw [List.dropWhile_cons_of_neg (by simpa using hy)] at h
      injection h with h1 _
      rw [← h1]
      exact hy
theorem trim_first {s : List UInt8} (h : 0 < (Lib.trimB s 32).length) : (Lib.trimB s 32)[0] ≠ 32 := by
  obtain ⟨x, r, ht⟩ := List.exists_cons_of_length_pos h
  have e : (Lib.trimB s 32)[0] = x := by simp [ht]
  rw [e]
  exact dw_head _ ht
theorem trim_last {s t : List UInt8} {y : UInt8} (h : Lib.trimB s 32 = t ++ [y]) : y ≠ 32 := by
  unfold Lib.trimB Lib.trimLeftB at h
  have h1 := List.takeWhile_append_dropWhile (p := (· == (32 : UInt8))) (l := Lib.trimRightB s 32)
  rw [h] at h1
  have h2 := congrArg List.reverse h1.symm
  rw [List.reverse_append, List.reverse_append] at h2
  generalize (List.takeWhile (· == (32 : UInt8)) (Lib.trimRightB s 32)).reverse = q at h2
  unfold Lib.trimRightB at h2
  rw [List.reverse_reverse] at h2
  exact dw_head _ h2
theorem dw_len : ∀ l : List UInt8, (l.dropWhile (· == 32)).length ≤ l.length
  | [] => Nat.le_refl _
  | x :: l => by
    by_cases hx : x = 32
    · subst hx
      rw [List.dropWhile_cons_of_pos (by rfl)]
      have := dw_len l
      simp
      omega
    · rw [List.dropWhile_cons_of_neg (by simpa using hx)]
      exact Nat.le_refl _
theorem trim_len (s : List UInt8) : (Lib.trimB s 32).length ≤ s.length := by
  unfold Lib.trimB Lib.trimLeftB Lib.trimRightB
  refine Nat.le_trans (dw_len _) ?_
  rw [List.length_reverse]
  refine Nat.le_trans (dw_len _) ?_
  rw [List.length_reverse]
  exact Nat.le_refl _
/-- what is written of the first j octets -/
def accP (T : List UInt8) (j : Nat) : List UInt8 := ((T.take j).foldl stepF (false, [])).2 ++ (if ((T.take j).foldl stepF (false, [])).1 = true then [32] else [])
theorem acc_inv {T : List UInt8} (h0 : ∀ h : 0 < T.length, T[0] ≠ 32) : ∀ (j : Nat) (hj : j < T.length), ((T.take (j + 1)).foldl stepF (false, [])).2 ≠ [] ∧ (((T.take (j + 1)).foldl stepF (false, [])).1 = true ↔ T[j] = 32)
  | 0, hj => by
    rw [fold_take hj]
    have h := h0 hj
    rw [List.take_zero, List.foldl_nil, stepF_no h (by simp)]
    simp [h]
  | j + 1, hj => by
    have ih := acc_inv h0 j (by omega)
    rw [fold_take hj]
    obtain ⟨b, o, hbo⟩ : ∃ b o, (T.take (j + 1)).foldl stepF (false, []) = (b, o) := ⟨_, _, rfl⟩
    rw [hbo] at ih ⊢
    by_cases hx : T[j + 1] = 32
    · rw [hx, stepF_sp]
      exact ⟨ih.1, by simp⟩
    · by_cases hs : b = true ∧ o ≠ []
      · rw [stepF_yes hx hs]; simp [hx]
      · rw [stepF_no hx hs]; simp [hx]
theorem acc_zero (T : List UInt8) : accP T 0 = [] := rfl
theorem acc_plain {T : List UInt8} (h0 : ∀ h : 0 < T.length, T[0] ≠ 32) {j : Nat} (hj : j < T.length) (hx : T[j] ≠ 32) : accP T (j + 1) = accP T j ++ [lowB T[j]] := by
  unfold accP
  rw [fold_take hj]
  obtain ⟨b, o, hbo⟩ : ∃ b o, (T.take j).foldl stepF (false, []) = (b, o) := ⟨_, _, rfl⟩
  rw [hbo]
  by_cases hs : b = true ∧ o ≠ []
  · rw [stepF_yes hx hs]
    obtain ⟨rfl, _⟩ := hs
    simp
  · rw [stepF_no hx hs]
    have hb : b = false := by
      rcases hb : b with _ | _
      · rfl
      · exfalso
        apply hs
        refine ⟨hb, ?_⟩
        match j, hj, hbo with
        | 0, _, hbo => rw [List.take_zero, List.foldl_nil] at hbo; injection hbo with h1 _; rw [← h1] at hb; cases hb
        | i + 1, hj, hbo =>
          have := (acc_inv h0 i (by omega)).1
          rw [hbo] at this
          exact this
    rw [hb]
    simp
theorem acc_skip {T : List UInt8} (h0 : ∀ h : 0 < T.length, T[0] ≠ 32) {i : Nat} (hj : i + 1 < T.length) (hx : T[i + 1] = 32) (hp : T[i] = 32) : accP T (i + 2) = accP T (i + 1) := by
  unfold accP
  rw [fold_take hj]
  have h := (acc_inv h0 i (by omega)).2.2 hp
  obtain ⟨b, o, hbo⟩ : ∃ b o, (T.take (i + 1)).foldl stepF (false, []) = (b, o) := ⟨_, _, rfl⟩
  rw [hbo] at h ⊢
  rw [hx, stepF_sp]
  simp at h
  simp [h]
theorem acc_space {T : List UInt8} (h0 : ∀ h : 0 < T.length, T[0] ≠ 32) {i : Nat} (hj : i + 1 < T.length) (hx : T[i + 1] = 32) (hp : T[i] ≠ 32) : accP T (i + 2) = accP T (i + 1) ++ [32] := by
  unfold accP
  rw [fold_take hj]
  have h : ¬ _ := fun e => hp ((acc_inv h0 i (by omega)).2.1 e)
  obtain ⟨b, o, hbo⟩ : ∃ b o, (T.take (i + 1)).foldl stepF (false, []) = (b, o) := ⟨_, _, rfl⟩
  rw [hbo] at h ⊢
  rw [hx, stepF_sp]
  simp at h
  simp [h]
theorem acc_end {s : List UInt8} : accP (Lib.trimB s 32) (Lib.trimB s 32).length = foldT s := by
  rw [← fold_trim s]
  have hl := fun t y => trim_last (s := s) (t := t) (y := y)
  have h0 := fun h => trim_first (s := s) h
  generalize Lib.trimB s 32 = T at *
  unfold accP foldT
  rw [List.take_length]
  rcases List.eq_nil_or_concat T with rfl | ⟨t, y, rfl⟩
  · rfl
  · have hy := hl t y (by simp)
    rw [List.concat_eq_append] at *
    have hi := (acc_inv h0 t.length (by simp)).2
    have e1 : (t ++ [y])[t.length]'(by simp) = y := by simp
    have e2 : (t ++ [y]).take (t.length + 1) = t ++ [y] := List.take_of_length_le (by simp)
    rw [e1, e2] at hi
    rw [if_neg (fun h => hy (hi.1 h)), List.append_nil]
theorem acc_len (T : List UInt8) (j : Nat) : (accP T j).length ≤ T.length + 1 := by
  have h := foldF_len (T.take j) false []
  unfold accP
  rw [List.length_append]
  have e : false.toNat = 0 := rfl
  rw [List.length_take] at h
  simp only [List.length_nil] at h
  split <;> simp <;> omega
end Go.Proofs.YtkmpmphabohkkaaDoor
