/-
  Plain mathematics of the charset layer: kinds, validity, contents octets, folding.
-/
import Derived.Test.YtkmpmphabohkkaaDoorChMath
namespace Go.Proofs.YtkmpmphabohkkaaDoor

/-! ### kinds -/
/-- how many octets a character has; 0: its UTF-8; -1: no such kind -/
def widK (k : Int) : Int := if k = 12 then 0 else if k = 28 then 4 else if k = 30 then 2 else if k = 19 ∨ k = 20 ∨ k = 22 ∨ k = 26 then 1 else -1
def prnt (x : Nat) : Bool := decide ((48 ≤ x ∧ x < 58) ∨ (65 ≤ x ∧ x < 91) ∨ (97 ≤ x ∧ x < 123)) || [32, 39, 40, 41, 43, 44, 45, 46, 47, 58, 61, 63].contains x
def hasK (k : Int) (x : Nat) : Bool :=
  if k = 12 ∨ k = 28 then scal x else if k = 30 then scal x && decide (x < 65536) else if k = 22 then decide (x < 128) else if k = 26 then decide (32 ≤ x ∧ x < 127)
  else if k = 20 then decide ((32 ≤ x ∧ x < 127) ∨ (160 ≤ x ∧ x < 256)) else if k = 19 then prnt x else false
/-- the octets of a character, by its width -/
def octW (w : Int) (x : Nat) : List UInt8 :=
  if w = 0 then u8O x else if w = 1 then [by8 x] else if w = 2 then [by8 (x / 256), by8 (x % 256)] else [0, by8 (x / 65536), by8 (x / 256 % 256), by8 (x % 256)]
theorem wid_cases (k : Int) : (k = 12 ∧ widK k = 0) ∨ (k = 28 ∧ widK k = 4) ∨ (k = 30 ∧ widK k = 2) ∨ ((k = 19 ∨ k = 20 ∨ k = 22 ∨ k = 26) ∧ widK k = 1) ∨ ((k ≠ 12 ∧ k ≠ 28 ∧ k ≠ 30 ∧ k ≠ 19 ∧ k ≠ 20 ∧ k ≠ 22 ∧ k ≠ 26) ∧ widK k = -1) := by
  unfold widK
  by_cases h1 : k = 12
  · exact .inl ⟨h1, if_pos h1⟩
  · rw [if_neg h1]
    by_cases h2 : k = 28
    · exact .inr (.inl ⟨h2, if_pos h2⟩)
    · rw [if_neg h2]
      by_cases h3 : k = 30
      · exact .inr (.inr (.inl ⟨h3, if_pos h3⟩))
      · rw [if_neg h3]
        by_cases h4 : k = 19 ∨ k = 20 ∨ k = 22 ∨ k = 26
        · exact .inr (.inr (.inr (.inl ⟨h4, if_pos h4⟩)))
        · refine .inr (.inr (.inr (.inr ⟨?_, if_neg h4⟩)))
          omega
theorem prnt_lt {x : Nat} (h : prnt x = true) : x < 128 := by
  unfold prnt at h
  rw [Bool.or_eq_true, decide_eq_true_eq, List.contains_eq_mem, decide_eq_true_eq] at h
  simp only [List.mem_cons, List.not_mem_nil, or_false] at h
  omega
/-- a character of a kind fits its octets -/
theorem has_fits {k : Int} {x : Nat} (h : hasK k x = true) : (widK k = 1 → x < 256) ∧ (widK k = 2 → x < 65536) ∧ x ≤ 1114111 ∧ 0 ≤ widK k := by
  unfold hasK at h
  rcases wid_cases k with ⟨rfl, hw⟩ | ⟨rfl, hw⟩ | ⟨rfl, hw⟩ | ⟨hk, hw⟩ | ⟨hk, hw⟩
  · rw [if_pos (by omega)] at h
    have := scal_true.1 h
    rw [hw]
    refine ⟨by omega, by omega, by omega, by omega⟩
  · rw [if_pos (by omega)] at h
    have := scal_true.1 h
    rw [hw]
    refine ⟨by omega, by omega, by omega, by omega⟩
  · rw [if_neg (by omega), if_pos rfl, Bool.and_eq_true, decide_eq_true_eq] at h
    rw [hw]
    refine ⟨by omega, fun _ => h.2, by omega, by omega⟩
  · have hx : x < 256 := by
      rcases hk with rfl | rfl | rfl | rfl
      · rw [if_neg (by omega), if_neg (by omega), if_neg (by omega), if_neg (by omega), if_neg (by omega), if_pos rfl] at h
        have := prnt_lt h
        omega
      · rw [if_neg (by omega), if_neg (by omega), if_neg (by omega), if_neg (by omega), if_pos rfl, decide_eq_true_eq] at h
        omega
      · rw [if_neg (by omega), if_neg (by omega), if_pos rfl, decide_eq_true_eq] at h
        omega
      · rw [if_neg (by omega), if_neg (by omega), if_neg (by omega), if_pos rfl, decide_eq_true_eq] at h
        omega
    rw [hw]
    refine ⟨fun _ => hx, by omega, by omega, by omega⟩
  · rw [if_neg (by omega), if_neg (by omega), if_neg (by omega), if_neg (by omega), if_neg (by omega), if_neg (by omega)] at h
    cases h

/-! ### character strings -/
def vT (k : Int) (s : List UInt8) : Bool := match ptsO s with
  | none => false
  | some L => decide (0 ≤ widK k) && L.all (hasK k)
def ptsL (s : List UInt8) : List Nat := (ptsO s).getD []
def lenT (k : Int) (s : List UInt8) : Nat := if vT k s = true then (ptsL s).length else 0
def octL (w : Int) (L : List Nat) : List UInt8 := (L.map (octW w)).flatten
/-- what Encode returns: octets, a code -/
def teL (k : Int) (s : List UInt8) : List UInt8 := if vT k s = true then octL (widK k) (ptsL s) else []
def teC (k : Int) (s : List UInt8) : Nat := if vT k s = true then 0 else 8
theorem vT_some {k : Int} {s : List UInt8} (h : vT k s = true) : ∃ L, ptsO s = some L ∧ ptsL s = L ∧ 0 ≤ widK k ∧ L.all (hasK k) = true ∧ encU L = s ∧ L.all scal = true := by
  unfold vT at h
  rcases hp : ptsO s with _ | L
  · rw [hp] at h; cases h
  · rw [hp] at h
    dsimp only at h
    rw [Bool.and_eq_true, decide_eq_true_eq] at h
    obtain ⟨h1, h2⟩ := ptsO_some hp
    exact ⟨L, rfl, by unfold ptsL; rw [hp]; rfl, h.1, h.2, h1, h2⟩
theorem vT_of {k : Int} {L : List Nat} (hw : 0 ≤ widK k) (h1 : L.all (hasK k) = true) (h2 : L.all scal = true) : vT k (encU L) = true ∧ ptsL (encU L) = L := by
  have h := ptsO_enc L h2
  constructor
  · unfold vT
    rw [h]
    dsimp only
    rw [h1, decide_eq_true hw]
    rfl
  · unfold ptsL
    rw [h]
    rfl
theorem te_yes {k : Int} {s : List UInt8} (h : vT k s = true) : teL k s = octL (widK k) (ptsL s) ∧ teC k s = 0 := ⟨if_pos h, if_pos h⟩
theorem te_no {k : Int} {s : List UInt8} (h : vT k s = false) : teL k s = [] ∧ teC k s = 8 := ⟨if_neg (by rw [h]; decide), if_neg (by rw [h]; decide)⟩
theorem octL_nil (w : Int) : octL w [] = [] := rfl
theorem octL_cons (w : Int) (x : Nat) (L : List Nat) : octL w (x :: L) = octW w x ++ octL w L := rfl
theorem octL_snoc (w : Int) (L : List Nat) (x : Nat) : octL w (L ++ [x]) = octL w L ++ octW w x := by
  unfold octL
  rw [List.map_append, List.flatten_append]
  simp
theorem octL_utf (L : List Nat) : octL 0 L = encU L := by
  unfold octL encU
  rfl

/-! ### contents octets read: the candidate, and the proof by encoding again -/
/-- characters of w octets each, highest one first; what is left over is left out -/
def chunks : Nat → Nat → List UInt8 → List Nat
  | 0, _, _ => []
  | f + 1, w, c => if c.length < w ∨ w = 0 then [] else (c.take w).foldl (fun x b => x * 256 + b.toNat) 0 :: chunks f w (c.drop w)
def candU (w : Int) (c : List UInt8) : List UInt8 := if w = 0 then c else encU (chunks c.length w.toNat c)
def decT (k : Int) (c : List UInt8) : Option (List UInt8) :=
  if 0 ≤ widK k ∧ vT k (candU (widK k) c) = true ∧ teL k (candU (widK k) c) = c then some (candU (widK k) c) else none
theorem decT_some {k : Int} {c s : List UInt8} (h : decT k c = some s) : vT k s = true ∧ teL k s = c ∧ teC k s = 0 ∧ 0 ≤ widK k := by
  unfold decT at h
  split at h
  · rename_i hc
    injection h with h
    subst h
    exact ⟨hc.2.1, hc.2.2, (te_yes hc.2.1).2, hc.1⟩
  · cases h
theorem octW_len {w : Int} {x : Nat} (h1 : w = 1 ∨ w = 2 ∨ w = 4) : (octW w x).length = w.toNat := by
  unfold octW
  rcases h1 with rfl | rfl | rfl <;> rfl
theorem chunk_one {w : Int} {x : Nat} (h1 : w = 1 ∨ w = 2 ∨ w = 4) (hx : x ≤ 1114111) (h8 : w = 1 → x < 256) (h16 : w = 2 → x < 65536) : (octW w x).foldl (fun x b => x * 256 + b.toNat) 0 = x := by
  unfold octW
  rcases h1 with rfl | rfl | rfl
  · rw [if_neg (by omega), if_pos rfl]
    show 0 * 256 + _ = _
    rw [by8_nat (by have := h8 rfl; omega)]
    omega
  · have := h16 rfl
    rw [if_neg (by omega), if_neg (by omega), if_pos rfl]
    show (0 * 256 + _) * 256 + _ = _
    rw [by8_nat (by omega), by8_nat (by omega)]
    omega
  · rw [if_neg (by omega), if_neg (by omega), if_neg (by omega)]
    show (((0 * 256 + 0) * 256 + _) * 256 + _) * 256 + _ = _
    rw [by8_nat (by omega), by8_nat (by omega), by8_nat (by omega)]
    omega
theorem chunks_oct {w : Int} (h1 : w = 1 ∨ w = 2 ∨ w = 4) : ∀ (L : List Nat) (f : Nat), L.length ≤ f → (∀ x ∈ L, x ≤ 1114111 ∧ (w = 1 → x < 256) ∧ (w = 2 → x < 65536)) → chunks f w.toNat (octL w L) = L
  | [], f, _, _ => by
    cases f with
    | zero => rfl
    | succ f =>
      unfold chunks
      rw [octL_nil, if_pos (by simp; omega)]
  | x :: L, 0, h, _ => by simp at h
  | x :: L, f + 1, h, hx => by
    have hxx := hx x (by simp)
    have hl := octW_len (x := x) h1
    unfold chunks
    rw [octL_cons, if_neg (by rw [List.length_append, hl]; omega)]
    have e1 : (octW w x ++ octL w L).take w.toNat = octW w x := by rw [← hl, List.take_left]
    have e2 : (octW w x ++ octL w L).drop w.toNat = octL w L := by rw [← hl, List.drop_left]
    rw [e1, e2, chunk_one h1 hxx.1 hxx.2.1 hxx.2.2, chunks_oct h1 L f (by simpa using h) (fun y hy => hx y (by simp [hy]))]
theorem octL_len {w : Int} (h1 : w = 1 ∨ w = 2 ∨ w = 4) : ∀ L : List Nat, L.length ≤ (octL w L).length
  | [] => Nat.le_refl _
  | x :: L => by
    have := octL_len h1 L
    have hl := octW_len (x := x) h1
    rw [octL_cons, List.length_append, hl, List.length_cons]
    omega
theorem wid_is {k : Int} (h : 0 ≤ widK k) : widK k = 0 ∨ widK k = 1 ∨ widK k = 2 ∨ widK k = 4 := by
  rcases wid_cases k with ⟨_, hw⟩ | ⟨_, hw⟩ | ⟨_, hw⟩ | ⟨_, hw⟩ | ⟨_, hw⟩ <;> omega
/-- the octets of a valid character string have it as their candidate -/
theorem cand_enc {k : Int} {s : List UInt8} (h : vT k s = true) : candU (widK k) (teL k s) = s := by
  obtain ⟨L, hp, hL, hw, ha, he, hs⟩ := vT_some h
  rw [(te_yes h).1, hL]
  unfold candU
  by_cases h0 : widK k = 0
  · rw [if_pos h0, h0, octL_utf, he]
  · have h1 : widK k = 1 ∨ widK k = 2 ∨ widK k = 4 := by have := wid_is hw; omega
    rw [if_neg h0, chunks_oct h1 L _ (octL_len h1 L) (fun x hx => ?_), he]
    have := has_fits (List.all_eq_true.1 ha x hx)
    exact ⟨this.2.2.1, this.1, this.2.1⟩
theorem decT_enc {k : Int} {s : List UInt8} (h : vT k s = true) : decT k (teL k s) = some s := by
  obtain ⟨_, _, _, hw, _⟩ := vT_some h
  unfold decT
  rw [cand_enc h, if_pos ⟨hw, h, rfl⟩]
/-- what Decode returns -/
def tdS (k : Int) (c : List UInt8) : List UInt8 := (decT k c).getD []
def tdK (k : Int) (c : List UInt8) : Int := if (decT k c).isSome = true then k else 0
def tdC (k : Int) (c : List UInt8) : Nat := if widK k < 0 then 3 else if (decT k c).isSome = true then 0 else 6

/-! ### folding -/
def stepF (st : Bool × List UInt8) (x : UInt8) : Bool × List UInt8 :=
  if x = 32 then (true, st.2) else
    (false, (if st.1 = true ∧ st.2 ≠ [] then st.2 ++ [32] else st.2) ++ [if 65 ≤ x.toNat ∧ x.toNat < 91 then x + 32 else x])
def foldT (s : List UInt8) : List UInt8 := (s.foldl stepF (false, [])).2
theorem low_clean (x : UInt8) (h : x ≠ 32) : (if 65 ≤ x.toNat ∧ x.toNat < 91 then x + 32 else x) ≠ 32 ∧ ¬ (65 ≤ (if 65 ≤ x.toNat ∧ x.toNat < 91 then x + 32 else x).toNat ∧ (if 65 ≤ x.toNat ∧ x.toNat < 91 then x + 32 else x).toNat < 91) := by
  split
  · rename_i hx
    have e : (x + 32).toNat = x.toNat + 32 := by
      rw [UInt8.toNat_add]
      show (x.toNat + 32) % 256 = _
      omega
    refine ⟨fun h2 => ?_, by omega⟩
    have := congrArg UInt8.toNat h2
    rw [e] at this
    have h32 : (32 : UInt8).toNat = 32 := rfl
    omega
  · exact ⟨h, by assumption⟩
theorem stepF_clean {o : List UInt8} {b : Bool} {y : UInt8} (h1 : y ≠ 32) (h2 : ¬ (65 ≤ y.toNat ∧ y.toNat < 91)) : stepF (b, o) y = (false, (if b = true ∧ o ≠ [] then o ++ [32] else o) ++ [y]) := by
  unfold stepF
  rw [if_neg h1, if_neg h2]
/-- what is folded is folded again as it is -/
theorem fold_inv : ∀ (s : List UInt8) (st : Bool × List UInt8), st.2.foldl stepF (false, []) = (false, st.2) → (s.foldl stepF st).2.foldl stepF (false, []) = (false, (s.foldl stepF st).2)
  | [], st, h => h
  | x :: s, st, h => by
    rw [List.foldl_cons]
    apply fold_inv s
    by_cases hx : x = 32
    · have e : stepF st x = (true, st.2) := if_pos hx
      rw [e]
      exact h
    · have e : stepF st x = (false, (if st.1 = true ∧ st.2 ≠ [] then st.2 ++ [32] else st.2) ++ [if 65 ≤ x.toNat ∧ x.toNat < 91 then x + 32 else x]) := if_neg hx
      rw [e]
      obtain ⟨h1, h2⟩ := low_clean x hx
      generalize (if 65 ≤ x.toNat ∧ x.toNat < 91 then x + 32 else x) = y at *
      dsimp only
      rw [List.foldl_append]
      split
      · rename_i hc
        rw [List.foldl_append, h]
        show stepF (stepF (false, st.2) 32) y = _
        rw [show stepF (false, st.2) 32 = (true, st.2) from if_pos rfl, stepF_clean h1 h2, if_pos ⟨rfl, hc.2⟩]
      · rw [h]
        show stepF (false, st.2) y = _
        rw [stepF_clean h1 h2, if_neg (by simp)]
theorem fold_fold (s : List UInt8) : foldT (foldT s) = foldT s := by
  unfold foldT
  rw [fold_inv s (false, []) rfl]
theorem foldF_snoc (s : List UInt8) (x : UInt8) : (s ++ [x]).foldl stepF (false, []) = stepF (s.foldl stepF (false, [])) x := by
  rw [List.foldl_append]
  rfl
theorem foldF_len : ∀ (s : List UInt8) (b : Bool) (o : List UInt8), (s.foldl stepF (b, o)).2.length ≤ s.length + o.length + b.toNat
  | [], b, o => by simp
  | x :: s, b, o => by
    rw [List.foldl_cons, List.length_cons]
    by_cases hx : x = 32
    · rw [show stepF (b, o) x = (true, o) from if_pos hx]
      have h := foldF_len s true o
      have : true.toNat = 1 := rfl
      omega
    · rw [show stepF (b, o) x = (false, (if b = true ∧ o ≠ [] then o ++ [32] else o) ++ [if 65 ≤ x.toNat ∧ x.toNat < 91 then x + 32 else x]) from if_neg hx]
      have h := foldF_len s false ((if b = true ∧ o ≠ [] then o ++ [32] else o) ++ [if 65 ≤ x.toNat ∧ x.toNat < 91 then x + 32 else x])
      have h0 : false.toNat = 0 := rfl
      have h1 : ((if b = true ∧ o ≠ [] then o ++ [32] else o) ++ [if 65 ≤ x.toNat ∧ x.toNat < 91 then x + 32 else x]).length ≤ o.length + b.toNat + 1 := by
        rw [List.length_append, List.length_singleton]
        split
        · rename_i hc
          rw [List.length_append, List.length_singleton, hc.1]
          have : true.toNat = 1 := rfl
          omega
        · omega
      omega
theorem foldT_len (s : List UInt8) : (foldT s).length ≤ s.length := by
  have h := foldF_len s false []
  have h0 : false.toNat = 0 := rfl
  simp only [List.length_nil] at h
  unfold foldT
  omega

/-! ### what Same and Best say -/
def sameT (k : Int) (s : List UInt8) (m : Int) (t : List UInt8) : Bool := vT k s && vT m t && decide (foldT s = foldT t)
theorem same_symm (k : Int) (s : List UInt8) (m : Int) (t : List UInt8) : sameT k s m t = sameT m t k s := by
  unfold sameT
  rw [Bool.and_comm (vT k s)]
  congr 1
  rw [decide_eq_decide]
  exact eq_comm
theorem same_self (k : Int) (s : List UInt8) : sameT k s k s = vT k s := by
  unfold sameT
  rw [decide_eq_true rfl, Bool.and_true, Bool.and_self]
theorem same_trans {k : Int} {s : List UInt8} {m : Int} {t : List UInt8} {n : Int} {u : List UInt8} (h1 : sameT k s m t = true) (h2 : sameT m t n u = true) : sameT k s n u = true := by
  unfold sameT at *
  simp only [Bool.and_eq_true, decide_eq_true_eq] at *
  exact ⟨⟨h1.1.1, h2.1.2⟩, h1.2.trans h2.2⟩
def bstK (s : List UInt8) : Int := if vT 19 s = true then 19 else if vT 12 s = true then 12 else 0
def bstS (s : List UInt8) : List UInt8 := if vT 19 s = true ∨ vT 12 s = true then s else []
def bstC (s : List UInt8) : Nat := if vT 19 s = true ∨ vT 12 s = true then 0 else 8
end Go.Proofs.YtkmpmphabohkkaaDoor
