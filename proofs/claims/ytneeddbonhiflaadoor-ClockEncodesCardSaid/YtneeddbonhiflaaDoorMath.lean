/-
  Plain mathematics of the cursor layer: the lexicographic order of byte strings.
-/
namespace Go.Proofs.YtneeddbonhiflaaDoor

/-- the sign of a comparison -/
def sgn (a b : Int) : Int := if a < b then -1 else if b < a then 1 else 0

theorem sgn_self (a : Int) : sgn a a = 0 := by simp [sgn]
theorem sgn_zero {a b : Int} (h : sgn a b = 0) : a = b := by
  unfold sgn at h
  split at h
  · simp at h
  · split at h
    · simp at h
    · omega
theorem sgn_anti (a b : Int) : sgn b a = - sgn a b := by
  unfold sgn
  repeat split
  all_goals omega
theorem sgn_bd (a b : Int) : -1 ≤ sgn a b ∧ sgn a b ≤ 1 := by
  unfold sgn
  repeat split
  all_goals omega

/-- the lexicographic order of byte strings -/
def lex : List UInt8 → List UInt8 → Int
  | [], [] => 0
  | [], _ :: _ => -1
  | _ :: _, [] => 1
  | x :: xs, y :: ys => if x = y then lex xs ys else sgn x.toNat y.toNat

theorem byte_eq {x y : UInt8} (h : (x.toNat : Int) = y.toNat) : x = y := UInt8.toNat_inj.1 (by omega)

theorem lex_at (k : Nat) : ∀ (xs ys : List UInt8), xs.take k = ys.take k → ∀ (h1 : k < xs.length) (h2 : k < ys.length), sgn xs[k].toNat ys[k].toNat ≠ 0 → lex xs ys = sgn xs[k].toNat ys[k].toNat := by
  induction k with
  | zero =>
    intro xs ys _ h1 h2 hne
    cases xs with
    | nil => simp at h1
    | cons x xs =>
      cases ys with
      | nil => simp at h2
      | cons y ys =>
        simp only [List.getElem_cons_zero] at hne ⊢
        unfold lex
        rw [if_neg]
        rintro rfl
        exact hne (sgn_self _)
  | succ k ih =>
    intro xs ys ht h1 h2 hne
    cases xs with
    | nil => simp at h1
    | cons x xs =>
      cases ys with
      | nil => simp at h2
      | cons y ys =>
        simp only [List.take_succ_cons, List.cons.injEq] at ht
        simp only [List.getElem_cons_succ] at hne ⊢
        unfold lex
        rw [if_pos ht.1]
        exact ih xs ys ht.2 _ _ hne

theorem lex_end : ∀ (xs ys : List UInt8), xs.take (min xs.length ys.length) = ys.take (min xs.length ys.length) → lex xs ys = sgn xs.length ys.length := by
  intro xs
  induction xs with
  | nil =>
    intro ys _
    cases ys with
    | nil => rfl
    | cons y ys => simp [lex, sgn]
  | cons x xs ih =>
    intro ys h
    cases ys with
    | nil => simp [lex, sgn]; omega
    | cons y ys =>
      rw [show min (x :: xs).length (y :: ys).length = min xs.length ys.length + 1 from by simp only [List.length_cons]; omega] at h
      simp only [List.take_succ_cons, List.cons.injEq] at h
      unfold lex
      rw [if_pos h.1, ih ys h.2]
      unfold sgn
      simp only [List.length_cons]
      repeat split
      all_goals omega

theorem take_more {xs ys : List UInt8} {k : Nat} (h : xs.take k = ys.take k) (h1 : k < xs.length) (h2 : k < ys.length) (he : xs[k] = ys[k]) : xs.take (k + 1) = ys.take (k + 1) := by
  rw [List.take_succ_eq_append_getElem h1, List.take_succ_eq_append_getElem h2, h, he]

theorem take_step {xs ys : List UInt8} {n m k : Nat} {z : Int} (hz : sgn (xs.getD k 0).toNat (ys.getD k 0).toNat = z) (h : z = 0) (e1 : xs.length = n) (e2 : ys.length = m) (h1 : k < n) (h2 : k < m) (ht : xs.take k = ys.take k) : xs.take (k + 1) = ys.take (k + 1) := by
  subst e1; subst e2; subst h
  have a1 : xs.getD k 0 = xs[k] := by simp [h1]
  have a2 : ys.getD k 0 = ys[k] := by simp [h2]
  rw [a1, a2] at hz
  exact take_more ht h1 h2 (byte_eq (sgn_zero hz))
theorem lex_found {xs ys : List UInt8} {n m k : Nat} {z : Int} (hz : sgn (xs.getD k 0).toNat (ys.getD k 0).toNat = z) (h : (z != 0) = true) (e1 : xs.length = n) (e2 : ys.length = m) (h1 : k < n) (h2 : k < m) (ht : xs.take k = ys.take k) : lex xs ys = z := by
  subst e1; subst e2; subst hz
  have a1 : xs.getD k 0 = xs[k] := by simp [h1]
  have a2 : ys.getD k 0 = ys[k] := by simp [h2]
  rw [a1, a2] at h ⊢
  exact lex_at k xs ys ht h1 h2 (by simpa using h)
theorem lex_done {xs ys : List UInt8} {n m k : Nat} (e1 : xs.length = n) (e2 : ys.length = m) (h1 : k ≤ n) (h2 : k ≤ m) (h : ¬ (k < n ∧ k < m)) (ht : xs.take k = ys.take k) : lex xs ys = sgn n m := by
  subst e1; subst e2
  exact lex_end xs ys (by rw [show min xs.length ys.length = k from by omega]; exact ht)

theorem sgn_lt {a b : Nat} (h : a < b) : sgn a b = -1 := by unfold sgn; rw [if_pos (by omega)]
theorem sgn_gt {a b : Nat} (h : b < a) : sgn a b = 1 := by unfold sgn; rw [if_neg (by omega), if_pos (by omega)]
theorem sgn_eq {a b : Nat} (h1 : ¬ a < b) (h2 : ¬ b < a) : sgn a b = 0 := by unfold sgn; rw [if_neg (by omega), if_neg (by omega)]
theorem lex_lt {xs ys : List UInt8} {n m k a b : Nat} (hz : sgn (xs.getD k 0).toNat (ys.getD k 0).toNat = sgn a b) (h : a < b) (e1 : xs.length = n) (e2 : ys.length = m) (h1 : k < n) (h2 : k < m) (ht : xs.take k = ys.take k) : lex xs ys = -1 := by
  rw [lex_found hz (by rw [sgn_lt h]; rfl) e1 e2 h1 h2 ht, sgn_lt h]
theorem lex_gt {xs ys : List UInt8} {n m k a b : Nat} (hz : sgn (xs.getD k 0).toNat (ys.getD k 0).toNat = sgn a b) (h : b < a) (e1 : xs.length = n) (e2 : ys.length = m) (h1 : k < n) (h2 : k < m) (ht : xs.take k = ys.take k) : lex xs ys = 1 := by
  rw [lex_found hz (by rw [sgn_gt h]; rfl) e1 e2 h1 h2 ht, sgn_gt h]

theorem lex_anti : ∀ (xs ys : List UInt8), lex ys xs = - lex xs ys := by
  intro xs
  induction xs with
  | nil => intro ys; cases ys <;> simp [lex]
  | cons x xs ih =>
    intro ys
    cases ys with
    | nil => simp [lex]
    | cons y ys =>
      unfold lex
      by_cases h : x = y
      · rw [if_pos h, if_pos h.symm, ih]
      · rw [if_neg h, if_neg (fun e => h e.symm), sgn_anti]

theorem lex_bd : ∀ (xs ys : List UInt8), -1 ≤ lex xs ys ∧ lex xs ys ≤ 1 := by
  intro xs
  induction xs with
  | nil => intro ys; cases ys <;> simp [lex]
  | cons x xs ih =>
    intro ys
    cases ys with
    | nil => simp [lex]
    | cons y ys =>
      unfold lex
      by_cases h : x = y
      · rw [if_pos h]; exact ih ys
      · rw [if_neg h]; exact sgn_bd _ _

theorem lex_zero : ∀ (xs ys : List UInt8), lex xs ys = 0 ↔ xs = ys := by
  intro xs
  induction xs with
  | nil => intro ys; cases ys <;> simp [lex]
  | cons x xs ih =>
    intro ys
    cases ys with
    | nil => simp [lex]
    | cons y ys =>
      unfold lex
      by_cases h : x = y
      · rw [if_pos h, ih]; simp [h]
      · rw [if_neg h]
        constructor
        · intro h'; exact absurd (byte_eq (sgn_zero h')) h
        · intro h'; simp only [List.cons.injEq] at h'; exact absurd h'.1 h

theorem lex_trans : ∀ (xs ys zs : List UInt8), lex xs ys ≤ 0 → lex ys zs ≤ 0 → lex xs zs ≤ 0 := by
  intro xs
  induction xs with
  | nil => intro ys zs _ _; cases zs <;> simp [lex]
  | cons x xs ih =>
    intro ys zs h1 h2
    cases ys with
    | nil => simp [lex] at h1
    | cons y ys =>
      cases zs with
      | nil => simp [lex] at h2
      | cons z zs =>
        unfold lex at h1 h2 ⊢
        by_cases hxy : x = y
        · subst hxy
          rw [if_pos rfl] at h1
          by_cases hxz : x = z
          · rw [if_pos hxz] at h2 ⊢
            exact ih ys zs h1 h2
          · rw [if_neg hxz] at h2 ⊢
            exact h2
        · rw [if_neg hxy] at h1
          have l1 : (x.toNat : Int) < y.toNat := by
            unfold sgn at h1
            split at h1
            · assumption
            · split at h1
              · omega
              · exact absurd (byte_eq (by omega)) hxy
          by_cases hyz : y = z
          · subst hyz
            rw [if_neg hxy]
            unfold sgn; rw [if_pos l1]; omega
          · rw [if_neg hyz] at h2
            have l2 : (y.toNat : Int) < z.toNat := by
              unfold sgn at h2
              split at h2
              · assumption
              · split at h2
                · omega
                · exact absurd (byte_eq (by omega)) hyz
            rw [if_neg (by rintro rfl; omega)]
            unfold sgn; rw [if_pos (by omega)]; omega
end Go.Proofs.YtneeddbonhiflaaDoor
