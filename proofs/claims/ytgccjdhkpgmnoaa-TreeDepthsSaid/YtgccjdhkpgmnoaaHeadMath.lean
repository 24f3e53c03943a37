/-
  Plain mathematics: headers and elements.
-/
import Derived.Test.YtgccjdhkpgmnoaaLenMath
import Derived.Test.YtgccjdhkpgmnoaaIdent
namespace Go.Proofs.Ytgccjdhkpgmnoaa

/-- what is read at the beginning of l as a header: its parts, the code of the error and its offset -/
structure RH where
  cls : Nat
  num : Nat
  con : Bool
  len : Nat
  size : Nat
  code : Nat
  off : Nat
def rdHead (l : List UInt8) : RH :=
  match l with
  | [] => ⟨0, 0, false, 0, 0, 1, 0⟩
  | x :: r =>
    if idOk x = false then ⟨0, 0, false, 0, 0, 3, 0⟩
    else if (rdLen r).code = 0 then ⟨x.toNat / 64, x.toNat % 32, x.toNat / 32 % 2 == 1, (rdLen r).n, (rdLen r).size + 1, 0, 0⟩
    else ⟨0, 0, false, 0, 0, (rdLen r).code, (rdLen r).off + 1⟩
theorem rdHead_tag {x : UInt8} {r : List UInt8} (h : idOk x = false) : rdHead (x :: r) = ⟨0, 0, false, 0, 0, 3, 0⟩ := by
  unfold rdHead
  simp only []
  rw [if_pos h]
theorem rdHead_ok {x : UInt8} {r : List UInt8} (h : idOk x = true) (h2 : (rdLen r).code = 0) : rdHead (x :: r) = ⟨x.toNat / 64, x.toNat % 32, x.toNat / 32 % 2 == 1, (rdLen r).n, (rdLen r).size + 1, 0, 0⟩ := by
  unfold rdHead
  simp only []
  rw [if_neg (by simp [h]), if_pos h2]
theorem rdHead_len {x : UInt8} {r : List UInt8} (h : idOk x = true) (h2 : ¬ (rdLen r).code = 0) : rdHead (x :: r) = ⟨0, 0, false, 0, 0, (rdLen r).code, (rdLen r).off + 1⟩ := by
  unfold rdHead
  simp only []
  rw [if_neg (by simp [h]), if_neg h2]

/-- the element with a tag and contents octets -/
def encB (c n : Nat) (k : Bool) (l : List UInt8) : List UInt8 := idByte c n k :: (lenOct l.length ++ l)
theorem encB_len (c n : Nat) (k : Bool) (l : List UInt8) : (encB c n k l).length = 1 + ((lenOct l.length).length + l.length) := by
  unfold encB
  rw [List.length_cons, List.length_append, Nat.add_comm]

/-- no header -/
def noHd (code off : Nat) : RH := ⟨0, 0, false, 0, 0, code, off⟩
theorem rdHead_err (l : List UInt8) (h : ¬ (rdHead l).code = 0) : rdHead l = noHd (rdHead l).code (rdHead l).off := by
  rcases l with _ | ⟨x, r⟩
  · rfl
  · by_cases h1 : idOk x = false
    · rw [rdHead_tag h1]; rfl
    · have h1' : idOk x = true := by simpa using h1
      by_cases h2 : (rdLen r).code = 0
      · rw [rdHead_ok h1' h2] at h
        exact absurd rfl h
      · rw [rdHead_len h1' h2]; rfl
/-- what is read at the beginning of l as an element: header, contents octets, what follows -/
structure RN where
  h : RH
  cont : List UInt8
  rest : List UInt8
def rdNext (l : List UInt8) : RN :=
  if (rdHead l).code = 0 then
    if l.length - (rdHead l).size < (rdHead l).len then ⟨noHd 1 l.length, [], []⟩
    else ⟨rdHead l, (l.drop (rdHead l).size).take (rdHead l).len, (l.drop (rdHead l).size).drop (rdHead l).len⟩
  else ⟨rdHead l, [], []⟩
theorem rdHead_size {l : List UInt8} (h : (rdHead l).code = 0) : (rdHead l).size ≤ l.length ∧ 2 ≤ (rdHead l).size ∧ (rdHead l).len ≤ 2147483647 ∧ (rdHead l).size ≤ 6 ∧ (rdHead l).off = 0 := by
  rcases l with _ | ⟨x, r⟩
  · exact absurd h (by decide)
  · by_cases h1 : idOk x = false
    · rw [rdHead_tag h1] at h
      exact absurd h (by decide)
    · have h1' : idOk x = true := by simpa using h1
      by_cases h2 : (rdLen r).code = 0
      · rw [rdHead_ok h1' h2]
        have := rdLen_ok h2
        have := rdLen_bd r
        simp
        omega
      · rw [rdHead_len h1' h2] at h
        exact absurd h h2
end Go.Proofs.Ytgccjdhkpgmnoaa
