/-
  Plain: what Arcs returns, and how a text is read part by part.
-/
import Derived.Test.YtepicefbpadbhaaDoorOidMath
namespace Go.Proofs.YtepicefbpadbhaaDoor

def arcC (l : List UInt8) : Int := if (arcsO l).isSome = true then 0 else 11
def arcL (l : List UInt8) : List Nat := (arcsO l).getD []
theorem arc_none {l : List UInt8} (h : arcsO l = none) : arcC l = 11 ∧ arcL l = [] := by simp [arcC, arcL, h]
theorem arc_some {l : List UInt8} {a : List Nat} (h : arcsO l = some a) : arcC l = 0 ∧ arcL l = a := by simp [arcC, arcL, h]
theorem arc_fail {l : List UInt8} (h : arcsAll (splitO l) = none) : arcC l = 11 ∧ arcL l = [] := arc_none (by unfold arcsO; rw [h])
theorem arc_wrong {l : List UInt8} {L : List Nat} (h : arcsAll (splitO l) = some L) (hr : rightO L = false) : arcC l = 11 ∧ arcL l = [] := arc_none (by unfold arcsO; rw [h]; simp [hr])
theorem arc_good {l : List UInt8} {L : List Nat} (h : arcsAll (splitO l) = some L) (hr : rightO L = true) : arcC l = 0 ∧ arcL l = L := arc_some (by unfold arcsO; rw [h]; simp [hr])
theorem arcL_bd (l : List UInt8) : ∀ x ∈ arcL l, x ≤ maxArc := by
  rcases h : arcsO l with _ | a
  · rw [(arc_none h).2]; simp
  · rw [(arc_some h).2]; exact (arcs_some h).1.2
/-- what is still to be read behind L -/
def Rd (l : List UInt8) (L : List Nat) (r : List UInt8) : Prop := arcsAll (splitO l) = (arcsAll (splitO r)).map (L ++ ·)
theorem rd_start (l : List UInt8) : Rd l [] l := by
  unfold Rd
  cases arcsAll (splitO l) <;> rfl
theorem rd_bad {l s r : List UInt8} {L : List Nat} (h : Rd l L (s ++ 46 :: r)) (hs : ∀ x ∈ s, x ≠ 46) (hn : arcOf s = none) : arcsAll (splitO l) = none := by
  unfold Rd at h
  rw [h, split_cons s r hs, arcsAll, hn]
  rfl
theorem rd_step {l s r : List UInt8} {L : List Nat} {n : Nat} (h : Rd l L (s ++ 46 :: r)) (hs : ∀ x ∈ s, x ≠ 46) (hn : arcOf s = some n) : Rd l (L ++ [n]) r := by
  unfold Rd at *
  rw [h, split_cons s r hs, arcsAll, hn]
  cases arcsAll (splitO r) <;> simp
theorem rd_last_bad {l s : List UInt8} {L : List Nat} (h : Rd l L s) (hs : ∀ x ∈ s, x ≠ 46) (hn : arcOf s = none) : arcsAll (splitO l) = none := by
  unfold Rd at h
  rw [h, split_plain s hs, arcsAll, hn]
  rfl
theorem rd_last {l s : List UInt8} {L : List Nat} {n : Nat} (h : Rd l L s) (hs : ∀ x ∈ s, x ≠ 46) (hn : arcOf s = some n) : arcsAll (splitO l) = some (L ++ [n]) := by
  unfold Rd at h
  rw [h, split_plain s hs, arcsAll, hn]
  rfl
/-- the part between two places -/
def cutO (l : List UInt8) (i j : Nat) : List UInt8 := (l.drop i).take (j - i)
def NoPt (l : List UInt8) (i j : Nat) : Prop := ∀ k (h : k < l.length), i ≤ k → k < j → l[k] ≠ 46
theorem noPt_self (l : List UInt8) (i : Nat) : NoPt l i i := fun k _ h1 h2 => absurd h2 (by omega)
theorem noPt_step {l : List UInt8} {i j : Nat} (h : NoPt l i j) (hj : j < l.length) (hx : l[j] ≠ 46) : NoPt l i (j + 1) := fun k hk h1 h2 => by
  by_cases e : k = j
  · subst e; exact hx
  · exact h k hk h1 (by omega)
theorem cut_no {l : List UInt8} {i j : Nat} (h : NoPt l i j) : ∀ x ∈ cutO l i j, x ≠ 46 := by
  intro x hx
  obtain ⟨k, hk, rfl⟩ := List.getElem_of_mem hx
  simp only [cutO, List.length_take, List.length_drop] at hk
  simp only [cutO, List.getElem_take, List.getElem_drop]
  exact h (i + k) (by omega) (by omega) (by omega)
theorem cut_point {l : List UInt8} {i j : Nat} (hij : i ≤ j) (hj : j < l.length) (hx : l[j] = 46) : l.drop i = cutO l i j ++ 46 :: l.drop (j + 1) := by
  unfold cutO
  conv => lhs; rw [← List.take_append_drop (j - i) (l.drop i)]
  rw [List.drop_drop, show i + (j - i) = j from by omega, List.drop_eq_getElem_cons hj, hx]
theorem cut_end {l : List UInt8} {i : Nat} : cutO l i l.length = l.drop i := by
  unfold cutO
  rw [List.take_of_length_le (by simp)]
end Go.Proofs.YtepicefbpadbhaaDoor
