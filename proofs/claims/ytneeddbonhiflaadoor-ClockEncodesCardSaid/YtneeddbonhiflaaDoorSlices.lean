/-
  Parts of a slice of bytes.
-/
import Derived.Test.YtneeddbonhiflaaDoorWords
namespace Go.Proofs.YtneeddbonhiflaaDoor
open Go.RowKit

/-- b[i:] -/
theorem bs_drop {w : World} {b off n c : Nat} {l : List UInt8} (h : Bs w (some ⟨b, off, none⟩) n c l) {i : Nat} (hi : i ≤ n) :
    Bs w (if c = i then some ⟨b, off, none⟩ else some ⟨b, off + i, none⟩) (n - i) (c - i) (l.drop i) := by
  obtain ⟨h1, h2, h3, h4⟩ := h
  refine ⟨by rw [List.length_drop, h1], by omega, by omega, fun hn => ?_⟩
  rw [if_neg (by omega)]
  obtain ⟨b', off', e, hb, hc⟩ := h4 (by omega)
  injection e with e
  injection e with e1 e2
  subst e1; subst e2
  refine ⟨b, off + i, rfl, hb, fun j hj => ?_⟩
  rw [List.getElem_drop, Nat.add_assoc]
  exact hc (i + j) (by rw [List.length_drop] at hj; omega)
/-- b[1:] -/
theorem bs_drop_one {w : World} {b off n c : Nat} {x : UInt8} {l : List UInt8} (h : Bs w (some ⟨b, off, none⟩) n c (x :: l)) (hc : c = 1) : Bs w (some ⟨b, off, none⟩) (n - 1) 0 l := by
  subst hc
  have hl := h.1
  have hn := h.2.1
  simp only [List.length_cons] at hl
  exact ⟨by omega, by omega, by unfold maxLen; omega, fun h0 => by omega⟩
theorem bs_drop_more {w : World} {b off n c : Nat} {x : UInt8} {l : List UInt8} (h : Bs w (some ⟨b, off, none⟩) n c (x :: l)) (hc : ¬ c = 1) : Bs w (some ⟨b, off + 1, none⟩) (n - 1) (c - 1) l := by
  have hl := h.1
  simp only [List.length_cons] at hl
  have := bs_drop h (i := 1) (by omega)
  rw [if_neg hc] at this
  exact this
/-- b[i:i+m], not empty -/
theorem bs_mid {w : World} {b off n c : Nat} {l : List UInt8} (h : Bs w (some ⟨b, off, none⟩) n c l) {i m : Nat} (hi : i + m ≤ n) (hm : 0 < m) :
    Bs w (some ⟨b, off + i, none⟩) m (c - i) ((l.drop i).take m) := by
  obtain ⟨h1, h2, h3, h4⟩ := h
  refine ⟨by simp; omega, by omega, by omega, fun hn => ?_⟩
  obtain ⟨b', off', e, hb, hc⟩ := h4 (by omega)
  injection e with e
  injection e with e1 e2
  subst e1; subst e2
  refine ⟨b, off + i, rfl, hb, fun j hj => ?_⟩
  rw [List.getElem_take, List.getElem_drop, Nat.add_assoc]
  exact hc (i + j) (by simp at hj; omega)
/-- b[:m] -/
theorem bs_take {w : World} {a : Option Addr} {n c : Nat} {l : List UInt8} (h : Bs w a n c l) {m : Nat} (hm : m ≤ n) : Bs w a m c (l.take m) :=
  ⟨by have := h.1; simp; omega, by have := h.2.1; omega, h.2.2.1, fun h0 => by
    obtain ⟨b, off, e, hb, hc⟩ := h.2.2.2 (by omega)
    exact ⟨b, off, e, hb, fun i hi => by rw [List.getElem_take]; exact hc i (by simp at hi; omega)⟩⟩
end Go.Proofs.YtneeddbonhiflaaDoor
