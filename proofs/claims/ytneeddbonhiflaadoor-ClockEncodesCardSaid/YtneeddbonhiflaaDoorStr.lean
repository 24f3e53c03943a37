/-
  Strings as lists of octets: cut, laid together, compared.
-/
import Derived.Test.YtneeddbonhiflaaDoorWords
namespace Go.Proofs.YtneeddbonhiflaaDoor

theorem str_cut (l : List UInt8) (i j : Nat) : (⟨l.toArray⟩ : ByteArray).extract i j = ⟨((l.drop i).take (j - i)).toArray⟩ := by
  apply ByteArray.ext
  rw [ByteArray.data_extract]
  simp
theorem str_join (A B : List UInt8) : (⟨A.toArray⟩ : ByteArray) ++ (⟨B.toArray⟩ : ByteArray) = ⟨(A ++ B).toArray⟩ := by
  apply ByteArray.ext
  simp
theorem str_inj {A B : List UInt8} (h : (⟨A.toArray⟩ : ByteArray) = ⟨B.toArray⟩) : A = B := by
  injection h with h
  simpa using h
theorem str_get (l : List UInt8) (k : Nat) (h : k < (⟨l.toArray⟩ : ByteArray).size) : (⟨l.toArray⟩ : ByteArray)[k] = l[k]'h := rfl
theorem str_len (l : List UInt8) : (⟨l.toArray⟩ : ByteArray).size = l.length := rfl
end Go.Proofs.YtneeddbonhiflaaDoor
