/-
  Plain mathematics of the tree layer: where an element of a tree lies among its octets.
-/
import Derived.Test.YtgccjdhkpgmnoaaTreeMath2
namespace Go.Proofs.Ytgccjdhkpgmnoaa

def kidsOf : Tree → List Tree
  | .node _ _ _ _ kids => kids
/-- how many octets stand ahead of the kids of a node -/
def hdrT (t : Tree) : Nat := (encT t).length - (encTs (kidsOf t)).length
structure Loc where
  ok : Bool
  pos : Nat
  t : Tree
/-- the element to which a path leads, with its offset; or the offset where the path does not go on -/
def locT : List Int → Tree → Nat → Loc
  | [], t, p => ⟨true, p, t⟩
  | i :: path, t, p =>
    match (kidsOf t)[i.toNat]? with
    | some u => if 0 ≤ i then locT path u (p + hdrT t + (encTs ((kidsOf t).take i.toNat)).length) else ⟨false, p, t⟩
    | none => ⟨false, p, t⟩
theorem locT_step {i : Int} {path : List Int} {t : Tree} {p : Nat} (h0 : 0 ≤ i) (h : i.toNat < (kidsOf t).length) : locT (i :: path) t p = locT path (kidsOf t)[i.toNat] (p + hdrT t + (encTs ((kidsOf t).take i.toNat)).length) := by
  rw [locT, List.getElem?_eq_getElem h]
  simp only []
  rw [if_pos h0]
theorem locT_stop {i : Int} {path : List Int} {t : Tree} {p : Nat} (h : i < 0 ∨ (kidsOf t).length ≤ i.toNat) : locT (i :: path) t p = ⟨false, p, t⟩ := by
  rw [locT]
  rcases Nat.lt_or_ge i.toNat (kidsOf t).length with hl | hl
  · rw [List.getElem?_eq_getElem hl]
    simp only []
    rw [if_neg (by omega)]
  · rw [List.getElem?_eq_none hl]

theorem okTs_at : ∀ (ts : List Tree) (i : Nat) (h : i < ts.length), okTs ts = true → okT ts[i] = true
  | [], _, h, _ => absurd h (by simp)
  | t :: ts, i, h, hok => by
    unfold okTs at hok
    rw [Bool.and_eq_true] at hok
    cases i with
    | zero => exact hok.1
    | succ i => exact okTs_at ts i (by simpa using h) hok.2
theorem depTs_at : ∀ (ts : List Tree) (i : Nat) (h : i < ts.length), depT ts[i] ≤ depTs ts
  | [], _, h => absurd h (by simp)
  | t :: ts, i, h => by
    unfold depTs
    cases i with
    | zero => exact Nat.le_max_left _ _
    | succ i => exact Nat.le_trans (depTs_at ts i (by simpa using h)) (Nat.le_max_right _ _)
theorem encTs_split (ts : List Tree) (i : Nat) (h : i < ts.length) : encTs ts = encTs (ts.take i) ++ (encT ts[i] ++ encTs (ts.drop (i + 1))) := by
  conv => lhs; rw [← List.take_append_drop i ts]
  rw [encTs_append, List.drop_eq_getElem_cons h, encTs_cons]
/-- the octets of a node that has kids -/
theorem enc_hdr {t : Tree} (hok : okT t = true) (hk : kidsOf t ≠ []) : ∃ hd, encT t = hd ++ encTs (kidsOf t) ∧ hd.length = hdrT t ∧ 2 ≤ hdrT t := by
  cases t with
  | node c n k content kids =>
    unfold okT at hok
    rw [Bool.and_eq_true] at hok
    obtain ⟨_, _, _, _, h1, h2⟩ := okN_iff.1 hok.1
    have hkt : k = true := by
      cases k with
      | true => rfl
      | false => exact absurd (h2 rfl) hk
    have hc := h1 hkt
    subst hc
    have e : encT (.node c n k [] kids) = (idByte c.toNat n.toNat k :: lenOct (encTs kids).length) ++ encTs kids := by
      rw [encT, List.nil_append]
      unfold encB
      rw [List.cons_append]
    refine ⟨_, e, ?_, ?_⟩
    · unfold hdrT kidsOf
      rw [e, List.length_append, Nat.add_sub_cancel]
    · unfold hdrT kidsOf
      rw [e, List.length_append, Nat.add_sub_cancel, List.length_cons]
      have : 1 ≤ (lenOct (encTs kids).length).length := by
        unfold lenOct
        split
        · rename_i hs
          rw [digits_small (by omega)]
          simp
        · simp
      omega

/-- what holds of the place that is found -/
theorem locT_ok : ∀ (path : List Int) (t : Tree) (p : Nat) (l : List UInt8), okT t = true → (l.drop p).take (encT t).length = encT t → p + (encT t).length ≤ l.length →
    okT (locT path t p).t = true ∧ depT (locT path t p).t ≤ depT t ∧ p ≤ (locT path t p).pos ∧ (locT path t p).pos + (encT (locT path t p).t).length ≤ p + (encT t).length ∧ (l.drop (locT path t p).pos).take (encT (locT path t p).t).length = encT (locT path t p).t
  | [], t, p, l, hok, hl, _ => by
    rw [locT]
    exact ⟨hok, Nat.le_refl _, Nat.le_refl _, Nat.le_refl _, hl⟩
  | i :: path, t, p, l, hok, hl, hp => by
    by_cases hi : 0 ≤ i ∧ i.toNat < (kidsOf t).length
    · obtain ⟨h0, h1⟩ := hi
      obtain ⟨hd, e, hdl, _⟩ := enc_hdr hok (fun h => by rw [h] at h1; simp at h1)
      have es := encTs_split (kidsOf t) i.toNat h1
      have hokk : okTs (kidsOf t) = true := by
        cases t with
        | node c n k content kids =>
          unfold okT at hok
          rw [Bool.and_eq_true] at hok
          exact hok.2
      have hdep : depTs (kidsOf t) + 1 ≤ depT t := by
        cases t with
        | node c n k content kids => unfold depT kidsOf; exact Nat.le_refl _
      have hlen : (encT t).length = hdrT t + ((encTs ((kidsOf t).take i.toNat)).length + ((encT (kidsOf t)[i.toNat]).length + (encTs ((kidsOf t).drop (i.toNat + 1))).length)) := by
        rw [e, List.length_append, hdl, es, List.length_append, List.length_append]
      have hpos : (l.drop (p + hdrT t + (encTs ((kidsOf t).take i.toNat)).length)).take (encT (kidsOf t)[i.toNat]).length = encT (kidsOf t)[i.toNat] := by
        have e2 : (l.drop p).take (encT t).length = (hd ++ encTs ((kidsOf t).take i.toNat)) ++ (encT (kidsOf t)[i.toNat] ++ encTs ((kidsOf t).drop (i.toNat + 1))) := by
          rw [hl, e, List.append_assoc, ← es]
        have e3 := congrArg (List.drop (hdrT t + (encTs ((kidsOf t).take i.toNat)).length)) e2
        rw [List.drop_left' (by rw [List.length_append, hdl]), List.drop_take, List.drop_drop] at e3
        have e4 := congrArg (List.take (encT (kidsOf t)[i.toNat]).length) e3
        rw [List.take_left' rfl, List.take_take, Nat.min_eq_left (by omega), ← Nat.add_assoc] at e4
        exact e4
      have ih := locT_ok path (kidsOf t)[i.toNat] _ l (okTs_at _ _ h1 hokk) hpos (by omega)
      rw [locT_step h0 h1]
      have hd2 := depTs_at (kidsOf t) i.toNat h1
      obtain ⟨g1, g2, g3, g4, g5⟩ := ih
      exact ⟨g1, by omega, by omega, by omega, g5⟩
    · rw [locT_stop (by omega)]
      exact ⟨hok, Nat.le_refl _, Nat.le_refl _, Nat.le_refl _, hl⟩
end Go.Proofs.Ytgccjdhkpgmnoaa
