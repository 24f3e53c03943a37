/-
  Plain mathematics of the charset layer: UTF-8 read and written, code point by code point.
-/
namespace Go.Proofs.YtkmpmphabohkkaaDoor

/-- a code point that has a UTF-8 -/
def scal (x : Nat) : Bool := decide (x ≤ 1114111 ∧ ¬ (55296 ≤ x ∧ x < 57344))
def by8 (n : Nat) : UInt8 := UInt8.ofNat n
theorem by8_nat {n : Nat} (h : n < 256) : (by8 n).toNat = n := by unfold by8; rw [UInt8.toNat_ofNat']; omega
/-- the UTF-8 of a code point; nothing if it has none -/
def u8O (x : Nat) : List UInt8 :=
  if scal x = false then []
  else if x < 128 then [by8 x]
  else if x < 2048 then [by8 (192 + x / 64), by8 (128 + x % 64)]
  else if x < 65536 then [by8 (224 + x / 4096), by8 (128 + x / 64 % 64), by8 (128 + x % 64)]
  else [by8 (240 + x / 262144), by8 (128 + x / 4096 % 64), by8 (128 + x / 64 % 64), by8 (128 + x % 64)]
theorem scal_true {x : Nat} : scal x = true ↔ x ≤ 1114111 ∧ ¬ (55296 ≤ x ∧ x < 57344) := by unfold scal; rw [decide_eq_true_eq]
theorem u8O_no {x : Nat} (h : scal x = false) : u8O x = [] := if_pos h
theorem u8O_1 {x : Nat} (h : scal x = true) (h1 : x < 128) : u8O x = [by8 x] := by unfold u8O; rw [h, if_neg (by decide), if_pos h1]
theorem u8O_2 {x : Nat} (h : scal x = true) (h1 : ¬ x < 128) (h2 : x < 2048) : u8O x = [by8 (192 + x / 64), by8 (128 + x % 64)] := by unfold u8O; rw [h, if_neg (by decide), if_neg h1, if_pos h2]
theorem u8O_3 {x : Nat} (h : scal x = true) (h1 : ¬ x < 2048) (h2 : x < 65536) : u8O x = [by8 (224 + x / 4096), by8 (128 + x / 64 % 64), by8 (128 + x % 64)] := by
  unfold u8O; rw [h, if_neg (by decide), if_neg (by omega), if_neg h1, if_pos h2]
theorem u8O_4 {x : Nat} (h : scal x = true) (h1 : ¬ x < 65536) : u8O x = [by8 (240 + x / 262144), by8 (128 + x / 4096 % 64), by8 (128 + x / 64 % 64), by8 (128 + x % 64)] := by
  unfold u8O; rw [h, if_neg (by decide), if_neg (by omega), if_neg (by omega), if_neg h1]
theorem u8O_ne {x : Nat} (h : scal x = true) : u8O x ≠ [] := by
  by_cases h1 : x < 128
  · rw [u8O_1 h h1]; simp
  · by_cases h2 : x < 2048
    · rw [u8O_2 h h1 h2]; simp
    · by_cases h3 : x < 65536
      · rw [u8O_3 h h2 h3]; simp
      · rw [u8O_4 h h3]; simp
theorem u8O_scal {x : Nat} (h : u8O x ≠ []) : scal x = true := by
  rcases hs : scal x with _ | _
  · exact absurd (u8O_no hs) h
  · rfl
theorem u8O_le (x : Nat) : (u8O x).length ≤ 4 := by
  unfold u8O
  split
  · simp
  · split
    · simp
    · split
      · simp
      · split <;> simp

/-! ### one code point read -/
/-- by the first octet: how many follow, and what the first one counts -/
def leadU (x : Nat) : Option (Nat × Nat) :=
  if 240 ≤ x ∧ x < 248 then some (3, x - 240) else if 224 ≤ x ∧ x < 240 then some (2, x - 224) else if 192 ≤ x ∧ x < 224 then some (1, x - 192) else if 128 ≤ x then none else some (0, x)
/-- octets that follow -/
def contU : Nat → List UInt8 → Option Nat
  | x, [] => some x
  | x, c :: r => if 128 ≤ c.toNat ∧ c.toNat < 192 then contU (x * 64 + c.toNat - 128) r else none
def headU : List UInt8 → Option (Nat × List UInt8)
  | [] => none
  | b :: r => match leadU b.toNat with
    | none => none
    | some (n, x) => if r.length < n then none else match contU x (r.take n) with
      | none => none
      | some y => if u8O y = b :: r.take n then some (y, r.drop n) else none
theorem headU_some {s r : List UInt8} {y : Nat} (h : headU s = some (y, r)) : s = u8O y ++ r ∧ scal y = true ∧ r.length < s.length := by
  rcases s with _ | ⟨b, t⟩
  · cases h
  · unfold headU at h
    dsimp only at h
    split at h
    · cases h
    · rename_i n x _
      split at h
      · cases h
      · rename_i hl
        split at h
        · cases h
        · rename_i z _
          split at h
          · rename_i e
            injection h with h
            injection h with h1 h2
            subst h1
            refine ⟨?_, u8O_scal (by rw [e]; simp), ?_⟩
            · rw [e, ← h2, List.cons_append, List.take_append_drop]
            · rw [← h2, List.length_drop, List.length_cons]; omega
          · cases h
theorem headU_step {b : UInt8} {r : List UInt8} {n x y : Nat} (h1 : leadU b.toNat = some (n, x)) (h2 : n ≤ r.length) (h3 : contU x (r.take n) = some y) (h4 : u8O y = b :: r.take n) : headU (b :: r) = some (y, r.drop n) := by
  unfold headU
  dsimp only
  rw [h1]
  dsimp only
  rw [if_neg (by omega), h3]
  dsimp only
  rw [if_pos h4]
theorem contU_cons {x z : Nat} {r : List UInt8} (h : z < 64) : contU x (by8 (128 + z) :: r) = contU (x * 64 + z) r := by
  show (if _ then _ else _) = _
  rw [by8_nat (by omega), if_pos (by omega), show x * 64 + (128 + z) - 128 = x * 64 + z by omega]
theorem headU_enc {x : Nat} (h : scal x = true) (r : List UInt8) : headU (u8O x ++ r) = some (x, r) := by
  have hb := scal_true.1 h
  by_cases h1 : x < 128
  · have e := u8O_1 h h1
    rw [e]
    refine headU_step (n := 0) (x := x) (by rw [by8_nat (by omega)]; unfold leadU; rw [if_neg (by omega), if_neg (by omega), if_neg (by omega), if_neg (by omega)]) (Nat.zero_le _) rfl (by rw [List.take_zero]; exact e)
  · by_cases h2 : x < 2048
    · have e := u8O_2 h h1 h2
      rw [e]
      exact headU_step (n := 1) (x := x / 64) (y := x) (by rw [by8_nat (by omega)]; unfold leadU; rw [if_neg (by omega), if_neg (by omega), if_pos (by omega), show 192 + x / 64 - 192 = x / 64 by omega]) (by simp)
        (by show contU _ [_] = _; rw [contU_cons (by omega), show x / 64 * 64 + x % 64 = x by omega]; rfl) e
    · by_cases h3 : x < 65536
      · have e := u8O_3 h h2 h3
        rw [e]
        exact headU_step (n := 2) (x := x / 4096) (y := x) (by rw [by8_nat (by omega)]; unfold leadU; rw [if_neg (by omega), if_pos (by omega), show 224 + x / 4096 - 224 = x / 4096 by omega]) (by simp)
          (by show contU _ [_, _] = _; rw [contU_cons (by omega), contU_cons (by omega), show (x / 4096 * 64 + x / 64 % 64) * 64 + x % 64 = x by omega]; rfl) e
      · have e := u8O_4 h h3
        rw [e]
        exact headU_step (n := 3) (x := x / 262144) (y := x) (by rw [by8_nat (by omega)]; unfold leadU; rw [if_pos (by omega), show 240 + x / 262144 - 240 = x / 262144 by omega]) (by simp)
          (by show contU _ [_, _, _] = _; rw [contU_cons (by omega), contU_cons (by omega), contU_cons (by omega), show ((x / 262144 * 64 + x / 4096 % 64) * 64 + x / 64 % 64) * 64 + x % 64 = x by omega]; rfl) e

/-! ### a whole string -/
def encU (L : List Nat) : List UInt8 := (L.map u8O).flatten
theorem encU_nil : encU [] = [] := rfl
theorem encU_cons (x : Nat) (L : List Nat) : encU (x :: L) = u8O x ++ encU L := rfl
theorem encU_append (L M : List Nat) : encU (L ++ M) = encU L ++ encU M := by unfold encU; rw [List.map_append, List.flatten_append]
theorem encU_snoc (L : List Nat) (x : Nat) : encU (L ++ [x]) = encU L ++ u8O x := by
  rw [encU_append, encU_cons, encU_nil, List.append_nil]
def ptsF : Nat → List UInt8 → Option (List Nat)
  | 0, s => if s = [] then some [] else none
  | f + 1, s => if s = [] then some [] else match headU s with
    | none => none
    | some (y, r) => (ptsF f r).map (y :: ·)
/-- the code points of a string; none if it is not valid UTF-8 -/
def ptsO (s : List UInt8) : Option (List Nat) := ptsF s.length s
theorem ptsF_more : ∀ (f g : Nat) (s : List UInt8), s.length ≤ f → s.length ≤ g → ptsF f s = ptsF g s
  | 0, 0, _, _, _ => rfl
  | 0, g + 1, s, h, _ => by
    have e := List.length_eq_zero_iff.1 (Nat.le_zero.1 h)
    subst e
    rfl
  | f + 1, 0, s, _, h => by
    have e := List.length_eq_zero_iff.1 (Nat.le_zero.1 h)
    subst e
    rfl
  | f + 1, g + 1, s, h1, h2 => by
    unfold ptsF
    by_cases e : s = []
    · rw [if_pos e, if_pos e]
    · rw [if_neg e, if_neg e]
      rcases hh : headU s with _ | ⟨y, r⟩
      · rfl
      · have := (headU_some hh).2.2
        dsimp only
        rw [ptsF_more f g r (by omega) (by omega)]
theorem ptsO_nil : ptsO [] = some [] := rfl
theorem ptsO_none {s : List UInt8} (h : s ≠ []) (hh : headU s = none) : ptsO s = none := by
  unfold ptsO
  rcases s with _ | ⟨b, r⟩
  · exact absurd rfl h
  · rw [List.length_cons]
    unfold ptsF
    rw [if_neg h, hh]
theorem ptsO_head {s r : List UInt8} {y : Nat} (hh : headU s = some (y, r)) : ptsO s = (ptsO r).map (y :: ·) := by
  have hl := (headU_some hh).2.2
  unfold ptsO
  rcases s with _ | ⟨b, t⟩
  · cases hh
  · rw [List.length_cons] at hl ⊢
    rw [ptsF, if_neg (by simp), hh]
    dsimp only
    rw [ptsF_more t.length r.length r (by omega) (Nat.le_refl _)]
theorem ptsO_enc : ∀ L : List Nat, L.all scal = true → ptsO (encU L) = some L
  | [], _ => rfl
  | x :: L, h => by
    rw [List.all_cons, Bool.and_eq_true] at h
    rw [encU_cons, ptsO_head (headU_enc h.1 _), ptsO_enc L h.2]
    rfl
theorem ptsF_some : ∀ (f : Nat) (s : List UInt8) (L : List Nat), ptsF f s = some L → encU L = s ∧ L.all scal = true
  | 0, s, L, h => by
    unfold ptsF at h
    split at h
    · rename_i e
      injection h with h
      subst h
      exact ⟨e.symm, rfl⟩
    · cases h
  | f + 1, s, L, h => by
    unfold ptsF at h
    split at h
    · rename_i e
      injection h with h
      subst h
      exact ⟨e.symm, rfl⟩
    · rcases hh : headU s with _ | ⟨y, r⟩
      · rw [hh] at h; cases h
      · rw [hh] at h
        dsimp only at h
        obtain ⟨M, hM, rfl⟩ := Option.map_eq_some_iff.1 h
        obtain ⟨h1, h2⟩ := ptsF_some f r M hM
        obtain ⟨h3, h4, _⟩ := headU_some hh
        exact ⟨by rw [encU_cons, h1, h3], by rw [List.all_cons, h4, h2]; rfl⟩
theorem ptsO_some {s : List UInt8} {L : List Nat} (h : ptsO s = some L) : encU L = s ∧ L.all scal = true := ptsF_some _ _ _ h
/-- code points read so far, and the rest -/
theorem ptsO_front {M : List Nat} {r : List UInt8} (h : M.all scal = true) : ptsO (encU M ++ r) = (ptsO r).map (M ++ ·) := by
  induction M with
  | nil => cases hp : ptsO r <;> simp [encU_nil, hp]
  | cons x M ih =>
    rw [List.all_cons, Bool.and_eq_true] at h
    rw [encU_cons, List.append_assoc, ptsO_head (headU_enc h.1 _), ih h.2, Option.map_map]
    rfl
theorem encU_len : ∀ L : List Nat, L.all scal = true → L.length ≤ (encU L).length
  | [], _ => Nat.le_refl _
  | x :: L, h => by
    rw [List.all_cons, Bool.and_eq_true] at h
    have := encU_len L h.2
    have h1 := List.length_pos_iff.2 (u8O_ne h.1)
    rw [encU_cons, List.length_append, List.length_cons]
    omega
theorem encU_inj {L M : List Nat} (hL : L.all scal = true) (hM : M.all scal = true) (h : encU L = encU M) : L = M := by
  have h1 := ptsO_enc L hL
  rw [h, ptsO_enc M hM] at h1
  injection h1 with h1
  exact h1.symm
end Go.Proofs.YtkmpmphabohkkaaDoor
