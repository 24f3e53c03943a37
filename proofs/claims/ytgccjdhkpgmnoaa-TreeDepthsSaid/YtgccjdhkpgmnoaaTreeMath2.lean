/-
  Plain mathematics of the tree layer: equality of trees; one encoding each; no encoding begins another; sizes.
-/
import Derived.Test.YtgccjdhkpgmnoaaTreeMath
namespace Go.Proofs.Ytgccjdhkpgmnoaa

mutual
  def eqT : Tree → Tree → Bool
    | .node c n k l ks, .node c' n' k' l' ks' => c == c' && n == n' && k == k' && l == l' && eqTs ks ks'
  def eqTs : List Tree → List Tree → Bool
    | [], [] => true
    | t :: ts, u :: us => eqT t u && eqTs ts us
    | [], _ :: _ => false
    | _ :: _, [] => false
end
mutual
  theorem eqT_iff : ∀ t u : Tree, eqT t u = true ↔ t = u
    | .node c n k l ks, .node c' n' k' l' ks' => by
      unfold eqT
      simp only [Bool.and_eq_true, beq_iff_eq, eqTs_iff ks ks', Tree.node.injEq]
      constructor
      · rintro ⟨⟨⟨⟨h1, h2⟩, h3⟩, h4⟩, h5⟩
        exact ⟨h1, h2, h3, h4, h5⟩
      · rintro ⟨h1, h2, h3, h4, h5⟩
        exact ⟨⟨⟨⟨h1, h2⟩, h3⟩, h4⟩, h5⟩
  theorem eqTs_iff : ∀ ts us : List Tree, eqTs ts us = true ↔ ts = us
    | [], [] => by unfold eqTs; simp
    | t :: ts, u :: us => by
      unfold eqTs
      simp only [Bool.and_eq_true, eqT_iff t u, eqTs_iff ts us, List.cons.injEq]
    | [], _ :: _ => by unfold eqTs; simp
    | _ :: _, [] => by unfold eqTs; simp
end
theorem eqT_self (t : Tree) : eqT t t = true := (eqT_iff t t).2 rfl

theorem tree_prefix {t u : Tree} {r : List UInt8} (ht : okT t = true) (hu : okT u = true) (hl : (encT t).length ≤ 2147483647) (hl' : (encT u).length ≤ 2147483647) (h : encT u = encT t ++ r) : t = u := by
  have h1 := rdT_enc t (max (depT t) (depT u)) r ht (Nat.le_max_left _ _) hl
  have h2 := rdT_enc u (max (depT t) (depT u)) [] hu (Nat.le_max_right _ _) hl'
  rw [List.append_nil, h, h1] at h2
  injection h2 with h2
theorem tree_inj {t u : Tree} (ht : okT t = true) (hu : okT u = true) (hl : (encT t).length ≤ 2147483647) (h : encT t = encT u) : t = u :=
  tree_prefix (r := []) ht hu hl (by rw [← h]; exact hl) (by rw [List.append_nil, h])
theorem tree_take {t u : Tree} (ht : okT t = true) (hu : okT u = true) (hl : (encT t).length ≤ 2147483647) (hl' : (encT u).length ≤ 2147483647) {m : Nat}
    (hm : m = min (encT t).length (encT u).length) : (encT t).take m = (encT u).take m ↔ t = u := by
  constructor
  · intro h
    subst hm
    rcases Nat.le_total (encT t).length (encT u).length with hle | hle
    · rw [Nat.min_eq_left hle, List.take_length] at h
      have e : encT u = encT t ++ (encT u).drop (encT t).length := by
        conv => rhs; lhs; rw [h]
        rw [List.take_append_drop]
      exact tree_prefix ht hu hl hl' e
    · rw [Nat.min_eq_right hle, List.take_length] at h
      have e : encT t = encT u ++ (encT t).drop (encT u).length := by
        conv => rhs; lhs; rw [← h]
        rw [List.take_append_drop]
      exact (tree_prefix hu ht hl' hl e).symm
  · rintro rfl
    rfl

/-- what is parsed within a depth -/
def parseT (d : Nat) (l : List UInt8) : RT :=
  match rdT d l with
  | .err c o => .err c o
  | .ok t s => if s < l.length then .err 2 s else .ok t s
theorem parseT_ok {d : Nat} {l : List UInt8} {t : Tree} {s : Nat} (h : parseT d l = .ok t s) : okT t = true ∧ depT t ≤ d ∧ encT t = l ∧ s = l.length := by
  unfold parseT at h
  rcases hr : rdT d l with ⟨t', s'⟩ | ⟨c, o⟩
  · rw [hr] at h
    simp only [] at h
    by_cases hs : s' < l.length
    · rw [if_pos hs] at h
      cases h
    · rw [if_neg hs] at h
      injection h with h1 h2
      subst h1; subst h2
      obtain ⟨a, b, c, e, _⟩ := (rdT_sound d).ok _ _ _ hr
      have : s' = l.length := by omega
      subst this
      rw [List.take_length] at e
      exact ⟨a, b, e, rfl⟩
  · rw [hr] at h
    cases h
theorem parseT_err {d : Nat} {l : List UInt8} {c o : Nat} (h : parseT d l = .err c o) : o ≤ l.length ∧ 1 ≤ c := by
  unfold parseT at h
  rcases hr : rdT d l with ⟨t', s'⟩ | ⟨c', o'⟩
  · rw [hr] at h
    simp only [] at h
    by_cases hs : s' < l.length
    · rw [if_pos hs] at h
      injection h with h1 h2
      subst h1; subst h2
      exact ⟨by omega, by omega⟩
    · rw [if_neg hs] at h
      cases h
  · rw [hr] at h
    injection h with h1 h2
    subst h1; subst h2
    exact (rdT_sound d).err _ _ _ hr
theorem parseT_enc {t : Tree} {d : Nat} (ht : okT t = true) (hd : depT t ≤ d) (hl : (encT t).length ≤ 2147483647) : parseT d (encT t) = .ok t (encT t).length := by
  have h := rdT_enc t d [] ht hd hl
  rw [List.append_nil] at h
  unfold parseT
  rw [h]
  simp

mutual
  theorem encT_size : ∀ t : Tree, sizT t ≤ 100000 → (encT t).length ≤ 6 * sizT t
    | .node c n k content kids, h => by
      unfold sizT at h ⊢
      have h1 := encTs_size kids (by omega)
      have hel := encB_len c.toNat n.toNat k (content ++ encTs kids)
      have hb := lenOct_bd (n := (content ++ encTs kids).length) (by rw [List.length_append]; omega)
      rw [encT, hel]
      rw [List.length_append] at hb ⊢
      omega
  theorem encTs_size : ∀ ts : List Tree, sizTs ts ≤ 100000 → (encTs ts).length ≤ 6 * sizTs ts
    | [], _ => by rw [encTs_nil]; simp
    | t :: ts, h => by
      unfold sizTs at h ⊢
      have h1 := encT_size t (by omega)
      have h2 := encTs_size ts (by omega)
      rw [encTs_cons, List.length_append]
      omega
end
end Go.Proofs.Ytgccjdhkpgmnoaa
