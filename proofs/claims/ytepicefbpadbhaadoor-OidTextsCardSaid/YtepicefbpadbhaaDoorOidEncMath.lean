/-
  Plain: contents octets, arc by arc.
-/
import Derived.Test.YtepicefbpadbhaaDoorOidRefEnc
import Derived.Test.YtepicefbpadbhaaDoorOidArcs
namespace Go.Proofs.YtepicefbpadbhaaDoor

def eC (l : List UInt8) : Int := if (arcsO l).isSome = true then 0 else 8
def eL (l : List UInt8) : List UInt8 := match arcsO l with | some a => encO a | none => []
theorem e_none {l : List UInt8} (h : arcsO l = none) : eC l = 8 ∧ eL l = [] := by simp [eC, eL, h]
theorem e_some {l : List UInt8} {a : List Nat} (h : arcsO l = some a) : eC l = 0 ∧ eL l = encO a := by simp [eC, eL, h]
def eTo (L : List Nat) (k : Nat) : List UInt8 := encO (L.take k)
theorem eTo_two (x y : Nat) (r : List Nat) : eTo (x :: y :: r) 2 = subO (40 * x + y) true := by
  simp [eTo, encO, sidO, subsO]
theorem eTo_succ {L : List Nat} {k : Nat} (hk : k < L.length) (h2 : 2 ≤ k) : eTo L (k + 1) = eTo L k ++ subO (L[k]'hk) true := by
  match L, k, hk, h2 with
  | [x], k, hk, h2 => simp only [List.length_cons, List.length_nil] at hk; omega
  | x :: y :: r, k + 2, hk, _ =>
    simp only [List.length_cons] at hk
    have h : k < r.length := by omega
    have e : r.take (k + 1) = r.take k ++ [r[k]] := List.take_succ_eq_append_getElem h
    show (((40 * x + y) :: r.take (k + 1)).map fun n => subO n true).flatten = (((40 * x + y) :: r.take k).map fun n => subO n true).flatten ++ subO r[k] true
    rw [e]
    simp only [List.map_cons, List.map_append, List.flatten_cons, List.flatten_append, List.map_nil, List.flatten_nil, List.append_nil, List.append_assoc]
theorem eTo_all (L : List Nat) : eTo L L.length = encO L := by simp [eTo]
theorem arcs_two {l : List UInt8} {L : List Nat} (h : arcsO l = some L) : ∃ x y r, L = x :: y :: r ∧ 40 * x + y ≤ 4294967295 := by
  have h1 := (arcs_some h).1.1
  match L, h1 with
  | x :: y :: r, h1 =>
    refine ⟨x, y, r, rfl, ?_⟩
    rw [right_cons] at h1
    split at h1
    · simp only [decide_eq_true_eq] at h1; omega
    · split at h1
      · simp only [decide_eq_true_eq] at h1; omega
      · cases h1
theorem arcL_len (l : List UInt8) : (arcL l).length ≤ l.length + 1 := by
  rcases h : arcsO l with _ | L
  · rw [(arc_none h).2]; simp
  · rw [(arc_some h).2]
    unfold arcsO at h
    split at h
    · cases h
    · rename_i a ha
      split at h
      · injection h with h
        subst h
        rw [arcsAll_len ha]
        exact split_len l
      · cases h
theorem eTo_len {L : List Nat} (hb : ∀ x ∈ L, x ≤ maxArc) {x y : Nat} {r : List Nat} (he : L = x :: y :: r) (hs : 40 * x + y ≤ 4294967295) : ∀ k, 2 + k ≤ L.length → (eTo L (2 + k)).length ≤ 5 * k + 5
  | 0, _ => by
    subst he
    rw [Nat.add_zero, eTo_two]
    exact subO_len true hs
  | k + 1, hk => by
    have ih := eTo_len hb he hs k (by omega)
    rw [show 2 + (k + 1) = (2 + k) + 1 from by omega, eTo_succ (by omega) (by omega), List.length_append]
    have := subO_len (n := L[2 + k]'(by omega)) true (hb _ (List.getElem_mem _))
    omega
end Go.Proofs.YtepicefbpadbhaaDoor
