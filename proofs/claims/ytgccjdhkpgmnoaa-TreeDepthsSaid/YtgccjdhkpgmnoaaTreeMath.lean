/-
  Plain mathematics of the tree layer: trees, their encodings, reading.
-/
import Derived.Test.YtgccjdhkpgmnoaaTlvMath
namespace Go.Proofs.Ytgccjdhkpgmnoaa

/-- a tree of elements, valid or not -/
inductive Tree where
  | node (cls num : Int) (con : Bool) (content : List UInt8) (kids : List Tree)

mutual
  def encT : Tree → List UInt8
    | .node c n k content kids => encB c.toNat n.toNat k (content ++ encTs kids)
  def encTs : List Tree → List UInt8
    | [] => []
    | t :: ts => encT t ++ encTs ts
end
/-- one node is valid by itself -/
def okN (c n : Int) (k : Bool) (content : List UInt8) (kids : List Tree) : Bool :=
  decide (0 ≤ c) && decide (c ≤ 3) && decide (0 ≤ n) && decide (n ≤ 30) && (!k || content.isEmpty) && (k || kids.isEmpty)
mutual
  def okT : Tree → Bool
    | .node c n k content kids => okN c n k content kids && okTs kids
  def okTs : List Tree → Bool
    | [] => true
    | t :: ts => okT t && okTs ts
end
mutual
  def depT : Tree → Nat
    | .node _ _ _ _ kids => depTs kids + 1
  def depTs : List Tree → Nat
    | [] => 0
    | t :: ts => max (depT t) (depTs ts)
end
mutual
  def cntT : Tree → Nat
    | .node _ _ _ _ kids => cntTs kids + 1
  def cntTs : List Tree → Nat
    | [] => 0
    | t :: ts => cntT t + cntTs ts
end
mutual
  def sizT : Tree → Nat
    | .node _ _ _ content kids => sizTs kids + content.length + 1
  def sizTs : List Tree → Nat
    | [] => 0
    | t :: ts => sizT t + sizTs ts
end

inductive RT where
  | ok (t : Tree) (s : Nat)
  | err (code off : Nat)
inductive RK where
  | ok (ts : List Tree)
  | err (code off : Nat)
def RK.cons (t : Tree) : RK → RK
  | .ok ts => .ok (t :: ts)
  | .err c o => .err c o

/-- the elements of contents octets, which begin at an offset -/
def rdKids (f : List UInt8 → RT) : Nat → List UInt8 → Nat → RK
  | 0, _, _ => .ok []
  | m + 1, l, p =>
    match l with
    | [] => .ok []
    | x :: r =>
      match f (x :: r) with
      | .err c o => .err c (p + o)
      | .ok t s => (rdKids f m ((x :: r).drop s) (p + s)).cons t
/-- the element at the beginning, within a depth -/
def rdT : Nat → List UInt8 → RT
  | 0, _ => .err 5 0
  | d + 1, l =>
    if (rdNext l).h.code = 0 then
      if (rdNext l).h.con = true then
        match rdKids (rdT d) (rdNext l).cont.length (rdNext l).cont (rdNext l).h.size with
        | .err c o => .err c o
        | .ok ts => .ok (.node (rdNext l).h.cls (rdNext l).h.num true [] ts) ((rdNext l).h.size + (rdNext l).cont.length)
      else .ok (.node (rdNext l).h.cls (rdNext l).h.num false (rdNext l).cont []) ((rdNext l).h.size + (rdNext l).cont.length)
    else .err (rdNext l).h.code (rdNext l).h.off

theorem okN_iff {c n : Int} {k : Bool} {content : List UInt8} {kids : List Tree} : okN c n k content kids = true ↔ 0 ≤ c ∧ c ≤ 3 ∧ 0 ≤ n ∧ n ≤ 30 ∧ (k = true → content = []) ∧ (k = false → kids = []) := by
  unfold okN
  cases k <;> simp <;> (constructor <;> intro h <;> simp_all)

theorem encT_pos (t : Tree) : 2 ≤ (encT t).length ∧ (encT t) ≠ [] := by
  cases t with
  | node c n k content kids =>
    unfold encT
    have h : (encB c.toNat n.toNat k (content ++ encTs kids)).length = 1 + ((lenOct (content ++ encTs kids).length).length + (content ++ encTs kids).length) := encB_len _ _ _ _
    have h1 : 1 ≤ (lenOct (content ++ encTs kids).length).length := by
      unfold lenOct
      split
      · rename_i hs
        rw [digits_small (by omega)]
        simp
      · simp
    refine ⟨by rw [h]; omega, ?_⟩
    unfold encB
    simp

mutual
  theorem rdT_enc : ∀ (t : Tree) (d : Nat) (r : List UInt8), okT t = true → depT t ≤ d → (encT t).length ≤ 2147483647 → rdT d (encT t ++ r) = .ok t (encT t).length
    | .node c n k content kids, d, r, hok, hd, hl => by
      unfold okT at hok
      rw [Bool.and_eq_true] at hok
      obtain ⟨h1, h2⟩ := hok
      obtain ⟨c0, c3, n0, n30, hk1, hk2⟩ := okN_iff.1 h1
      unfold depT at hd
      obtain ⟨d, rfl⟩ : ∃ e, d = e + 1 := ⟨d - 1, by omega⟩
      have hel := encB_len c.toNat n.toNat k (content ++ encTs kids)
      have hle : (encT (.node c n k content kids)).length = 1 + ((lenOct (content ++ encTs kids).length).length + (content ++ encTs kids).length) := by unfold encT; exact hel
      have hN := rdNext_enc (c := c.toNat) (n := n.toNat) (by omega) (by omega) k (l := content ++ encTs kids) (by omega) r
      have hE : encT (.node c n k content kids) = encB c.toNat n.toNat k (content ++ encTs kids) := by rw [encT]
      rw [← hE] at hN
      unfold rdT
      rw [hN]
      simp only []
      rw [if_pos trivial]
      cases k with
      | true =>
        rw [if_pos rfl]
        have hc := hk1 rfl
        subst hc
        rw [List.nil_append] at hle ⊢
        rw [rdTs_enc kids d _ _ h2 (by omega) (by omega) (Nat.le_refl _)]
        simp only []
        rw [hle, show ((c.toNat : Nat) : Int) = c from by omega, show ((n.toNat : Nat) : Int) = n from by omega]
        congr 1
        omega
      | false =>
        rw [if_neg (by simp)]
        have hc := hk2 rfl
        subst hc
        have he : encTs [] = [] := by unfold encTs; rfl
        rw [he, List.append_nil] at hle ⊢
        rw [hle, show ((c.toNat : Nat) : Int) = c from by omega, show ((n.toNat : Nat) : Int) = n from by omega]
        congr 1
        omega
  theorem rdTs_enc : ∀ (ts : List Tree) (d m p : Nat), okTs ts = true → depTs ts ≤ d → (encTs ts).length ≤ 2147483647 → (encTs ts).length ≤ m → rdKids (rdT d) m (encTs ts) p = .ok ts
    | [], d, m, p, _, _, _, _ => by
      cases m with
      | zero => unfold rdKids; rfl
      | succ m => unfold rdKids encTs; rfl
    | t :: ts, d, m, p, hok, hd, hl, hm => by
      unfold okTs at hok
      rw [Bool.and_eq_true] at hok
      unfold depTs at hd
      have hp := encT_pos t
      have he : encTs (t :: ts) = encT t ++ encTs ts := by rw [encTs]
      rw [he, List.length_append] at hl hm
      obtain ⟨m, rfl⟩ : ∃ e, m = e + 1 := ⟨m - 1, by omega⟩
      have h1 := rdT_enc t d (encTs ts) hok.1 (by omega) (by omega)
      have h2 := rdTs_enc ts d m (p + (encT t).length) hok.2 (by omega) (by omega) (by omega)
      rw [he]
      obtain ⟨x, r, hx⟩ : ∃ x r, encT t ++ encTs ts = x :: r := by
        rcases hq : encT t ++ encTs ts with _ | ⟨x, r⟩
        · exact absurd (List.append_eq_nil_iff.1 hq).1 hp.2
        · exact ⟨x, r, rfl⟩
      rw [hx] at h1 ⊢
      unfold rdKids
      simp only []
      rw [h1]
      simp only []
      rw [← hx, List.drop_left' rfl, h2]
      rfl
end

theorem encTs_nil : encTs [] = [] := by rw [encTs]
theorem encTs_cons (t : Tree) (ts : List Tree) : encTs (t :: ts) = encT t ++ encTs ts := by rw [encTs]
theorem encTs_append (ts us : List Tree) : encTs (ts ++ us) = encTs ts ++ encTs us := by
  induction ts with
  | nil => rw [encTs_nil]; rfl
  | cons t ts ih => rw [List.cons_append, encTs_cons, encTs_cons, ih, List.append_assoc]

/-- what a reader of one element has to keep -/
structure Sound (d : Nat) (f : List UInt8 → RT) : Prop where
  ok : ∀ l t s, f l = .ok t s → okT t = true ∧ depT t ≤ d ∧ s ≤ l.length ∧ encT t = l.take s ∧ 2 ≤ s
  err : ∀ l c o, f l = .err c o → o ≤ l.length ∧ 1 ≤ c

theorem rdKids_ok {d : Nat} {f : List UInt8 → RT} (hf : Sound d f) : ∀ (m : Nat) (l : List UInt8) (p : Nat) (ts : List Tree), l.length ≤ m → rdKids f m l p = .ok ts → okTs ts = true ∧ depTs ts ≤ d ∧ encTs ts = l := by
  intro m
  induction m with
  | zero =>
    intro l p ts hl h
    have : l = [] := List.eq_nil_of_length_eq_zero (by omega)
    subst this
    unfold rdKids at h
    injection h with h
    subst h
    exact ⟨by unfold okTs; rfl, by unfold depTs; exact Nat.zero_le _, encTs_nil⟩
  | succ m ih =>
    intro l p ts hl h
    rcases l with _ | ⟨x, r⟩
    · unfold rdKids at h
      injection h with h
      subst h
      exact ⟨by unfold okTs; rfl, by unfold depTs; exact Nat.zero_le _, encTs_nil⟩
    · unfold rdKids at h
      simp only [] at h
      rcases hq : f (x :: r) with ⟨t, s⟩ | ⟨c, o⟩
      · rw [hq] at h
        simp only [] at h
        obtain ⟨h1, h2, h3, h4, h5⟩ := hf.ok _ _ _ hq
        rcases hk : rdKids f m ((x :: r).drop s) (p + s) with us | ⟨c, o⟩
        · rw [hk] at h
          unfold RK.cons at h
          simp only [RK.ok.injEq] at h
          subst h
          obtain ⟨g1, g2, g3⟩ := ih _ _ _ (by rw [List.length_drop]; omega) hk
          refine ⟨by unfold okTs; rw [h1, g1]; rfl, by unfold depTs; omega, ?_⟩
          rw [encTs_cons, h4, g3, List.take_append_drop]
        · rw [hk] at h
          unfold RK.cons at h
          cases h
      · rw [hq] at h
        cases h
theorem rdKids_err {d : Nat} {f : List UInt8 → RT} (hf : Sound d f) : ∀ (m : Nat) (l : List UInt8) (p c o : Nat), rdKids f m l p = .err c o → o ≤ p + l.length ∧ 1 ≤ c := by
  intro m
  induction m with
  | zero =>
    intro l p c o h
    unfold rdKids at h
    cases h
  | succ m ih =>
    intro l p c o h
    rcases l with _ | ⟨x, r⟩
    · unfold rdKids at h
      cases h
    · unfold rdKids at h
      simp only [] at h
      rcases hq : f (x :: r) with ⟨t, s⟩ | ⟨c', o'⟩
      · rw [hq] at h
        simp only [] at h
        obtain ⟨_, _, h3, _, _⟩ := hf.ok _ _ _ hq
        rcases hk : rdKids f m ((x :: r).drop s) (p + s) with us | ⟨c', o'⟩
        · rw [hk] at h
          unfold RK.cons at h
          cases h
        · rw [hk] at h
          unfold RK.cons at h
          simp only [RK.err.injEq] at h
          obtain ⟨rfl, rfl⟩ := h
          obtain ⟨g1, g2⟩ := ih _ _ _ _ hk
          rw [List.length_drop] at g1
          exact ⟨by omega, g2⟩
      · rw [hq] at h
        simp only [RK.err.injEq] at h
        obtain ⟨rfl, rfl⟩ := h
        obtain ⟨g1, g2⟩ := hf.err _ _ _ hq
        exact ⟨by omega, g2⟩

theorem rdNext_fits {l : List UInt8} (h : (rdNext l).h.code = 0) : (rdNext l).h.size + (rdNext l).cont.length ≤ l.length ∧ 2 ≤ (rdNext l).h.size ∧ (rdNext l).h.len = (rdNext l).cont.length := by
  unfold rdNext at h ⊢
  by_cases hq : (rdHead l).code = 0
  · rw [if_pos hq] at h ⊢
    have hs := rdHead_size hq
    by_cases hsh : l.length - (rdHead l).size < (rdHead l).len
    · rw [if_pos hsh] at h
      simp [noHd] at h
    · rw [if_neg hsh]
      simp only [List.length_take, List.length_drop]
      omega
  · rw [if_neg hq] at h
    exact absurd h hq
/-- the element that is read, in its place -/
theorem enc_take_next {l : List UInt8} (h : (rdNext l).h.code = 0) : encB (rdNext l).h.cls (rdNext l).h.num (rdNext l).h.con (rdNext l).cont = l.take ((rdNext l).h.size + (rdNext l).cont.length) ∧ (rdNext l).h.cls ≤ 3 ∧ (rdNext l).h.num ≤ 30 := by
  obtain ⟨h1, h2, _, h4⟩ := enc_of_next h
  refine ⟨?_, h1, h2⟩
  have hN := rdNext_fits h
  have hl : (encB (rdNext l).h.cls (rdNext l).h.num (rdNext l).h.con (rdNext l).cont).length = (rdNext l).h.size + (rdNext l).cont.length := by
    have hlen := congrArg List.length h4
    rw [List.length_append] at hlen
    have hr : (rdNext l).rest.length = l.length - ((rdNext l).h.size + (rdNext l).cont.length) := by
      unfold rdNext at h hN ⊢
      by_cases hq : (rdHead l).code = 0
      · rw [if_pos hq] at h hN ⊢
        by_cases hsh : l.length - (rdHead l).size < (rdHead l).len
        · rw [if_pos hsh] at h
          simp [noHd] at h
        · rw [if_neg hsh] at hN ⊢
          simp only [List.length_take, List.length_drop] at hN ⊢
          omega
      · rw [if_neg hq] at h
        exact absurd h hq
    omega
  have h5 : ∀ (E R : List UInt8), E ++ R = l → E = l.take E.length := fun E R e => by
    subst e
    rw [List.take_left' rfl]
  have h6 := h5 _ _ h4
  rw [hl] at h6
  exact h6

theorem rdT_sound (d : Nat) : Sound d (rdT d) := by
  induction d with
  | zero =>
    constructor
    · intro l t s h
      unfold rdT at h
      cases h
    · intro l c o h
      unfold rdT at h
      simp only [RT.err.injEq] at h
      obtain ⟨rfl, rfl⟩ := h
      exact ⟨Nat.zero_le _, by omega⟩
  | succ d ih =>
    constructor
    · intro l t s h
      unfold rdT at h
      by_cases hq : (rdNext l).h.code = 0
      · rw [if_pos hq] at h
        obtain ⟨e1, e2, e3⟩ := enc_take_next hq
        obtain ⟨f1, f2, f3⟩ := rdNext_fits hq
        by_cases hk : (rdNext l).h.con = true
        · rw [if_pos hk] at h
          rcases hr : rdKids (rdT d) (rdNext l).cont.length (rdNext l).cont (rdNext l).h.size with us | ⟨c, o⟩
          · rw [hr] at h
            simp only [RT.ok.injEq] at h
            obtain ⟨rfl, rfl⟩ := h
            obtain ⟨g1, g2, g3⟩ := rdKids_ok ih _ _ _ _ (Nat.le_refl _) hr
            refine ⟨?_, by unfold depT; omega, f1, ?_, by omega⟩
            · unfold okT
              rw [g1, Bool.and_true, okN_iff]
              exact ⟨by omega, by omega, by omega, by omega, fun _ => rfl, fun h => by cases h⟩
            · rw [encT, List.nil_append, g3, ← hk]
              exact e1
          · rw [hr] at h
            cases h
        · rw [if_neg hk] at h
          simp only [RT.ok.injEq] at h
          obtain ⟨rfl, rfl⟩ := h
          have hk' : (rdNext l).h.con = false := by simpa using hk
          refine ⟨?_, by unfold depT depTs; omega, f1, ?_, by omega⟩
          · unfold okT
            rw [okTs, Bool.and_true, okN_iff]
            exact ⟨by omega, by omega, by omega, by omega, (fun h => by cases h), fun _ => rfl⟩
          · rw [encT, encTs_nil, List.append_nil, ← hk']
            exact e1
      · rw [if_neg hq] at h
        cases h
    · intro l c o h
      unfold rdT at h
      by_cases hq : (rdNext l).h.code = 0
      · rw [if_pos hq] at h
        obtain ⟨f1, f2, f3⟩ := rdNext_fits hq
        by_cases hk : (rdNext l).h.con = true
        · rw [if_pos hk] at h
          rcases hr : rdKids (rdT d) (rdNext l).cont.length (rdNext l).cont (rdNext l).h.size with us | ⟨c', o'⟩
          · rw [hr] at h
            cases h
          · rw [hr] at h
            simp only [RT.err.injEq] at h
            obtain ⟨rfl, rfl⟩ := h
            obtain ⟨g1, g2⟩ := rdKids_err ih _ _ _ _ _ hr
            exact ⟨by omega, g2⟩
        · rw [if_neg hk] at h
          cases h
      · rw [if_neg hq] at h
        simp only [RT.err.injEq] at h
        obtain ⟨rfl, rfl⟩ := h
        obtain ⟨g1, _, _⟩ := within_next hq
        exact ⟨g1, by omega⟩
end Go.Proofs.Ytgccjdhkpgmnoaa
