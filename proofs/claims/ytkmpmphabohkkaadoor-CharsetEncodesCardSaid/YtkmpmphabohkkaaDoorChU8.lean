/-
  What the library's words on UTF-8 say, in ChMath's: validity, how many characters. Plain mathematics.
-/
import Derived.Test.YtkmpmphabohkkaaDoorChRune
import Derived.Test.YtkmpmphabohkkaaDoorChMath2
import Derived.Lib.ValidLaws
import Derived.Lib.RuneCount
namespace Go.Proofs.YtkmpmphabohkkaaDoor

theorem dec_scal {x : Nat} (h : scal x = true) (r : List UInt8) : Lib.decodeL (u8O x ++ r) = (x, (u8O x).length) := decode_scal [] r h
theorem dec_bad {l : List UInt8} (h : headU l = none) (hl : l ≠ []) : Lib.decodeL l = (65533, 1) := decode_bad [] h hl
theorem u8_fffd : (u8O 65533).length = 3 := by decide +kernel
theorem valid_pts : ∀ (n : Nat) (l : List UInt8), l.length ≤ n → Lib.validD l = (ptsO l).isSome
  | 0, l, h => by
    obtain rfl : l = [] := List.length_eq_zero_iff.1 (by omega)
    rfl
  | n + 1, l, h => by
    by_cases hl : l = []
    · subst hl; rfl
    rw [Lib.validD_step l hl]
    rcases hh : headU l with _ | ⟨y, r⟩
    · rw [dec_bad hh hl, ptsO_none hl hh]
      rfl
    · obtain ⟨h1, h2, h3⟩ := headU_some hh
      rw [ptsO_head hh, Option.isSome_map, ← valid_pts n r (by omega), h1, dec_scal h2 r, if_neg, List.drop_left]
      rintro ⟨e1, e2⟩
      dsimp only at e1 e2
      subst e1
      rw [u8_fffd] at e2
      omega
theorem valid_is (l : List UInt8) : Lib.validD l = (ptsO l).isSome := valid_pts _ l (Nat.le_refl _)
theorem count_from : ∀ (L : List Nat) (f : Nat) (M : List Nat), L.all scal = true → L.length ≤ f → Lib.runeCountFrom ⟨(encU M ++ encU L).toArray⟩ f (encU M).length = L.length
  | [], f, M, _, _ => by
    cases f with
    | zero => rfl
    | succ f =>
      unfold Lib.runeCountFrom
      rw [if_neg]
      · rfl
      · rw [encU_nil, size_app]; simp
  | x :: L, f, M, h, hf => by
    obtain ⟨g, rfl⟩ : ∃ g, f = g + 1 := ⟨f - 1, by simp at hf; omega⟩
    rw [List.all_cons, Bool.and_eq_true] at h
    have hne := u8O_ne h.1
    have hp : 0 < (u8O x).length := by cases hu : u8O x with | nil => exact absurd hu hne | cons _ _ => simp
    unfold Lib.runeCountFrom
    rw [if_pos (by rw [size_app, encU_cons, List.length_append]; omega), encU_cons, decode_scal (encU M) (encU L) h.1]
    have ih := count_from L g (M ++ [x]) h.2 (by simp at hf; omega)
    rw [encU_snoc, List.append_assoc, List.length_append] at ih
    rw [ih, List.length_cons]
    omega
theorem count_is {L : List Nat} (h : L.all scal = true) : Lib.runeCount ⟨(encU L).toArray⟩ = L.length := by
  have := count_from L (encU L).length [] h (encU_len L h)
  exact this
end Go.Proofs.YtkmpmphabohkkaaDoor
