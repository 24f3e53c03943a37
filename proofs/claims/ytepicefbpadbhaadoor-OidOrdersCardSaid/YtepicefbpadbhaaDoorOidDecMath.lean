/-
  Plain: how the program reads contents octets: what it accepts are the encodings.
-/
import Derived.Test.YtepicefbpadbhaaDoorOidMath
namespace Go.Proofs.YtepicefbpadbhaaDoor

/-- the octets read as subidentifiers, each complete and without zeros at the beginning -/
def rdP : List UInt8 → Nat → Bool → List Nat → Option (List Nat)
  | [], _, complete, all => if (complete && !all.isEmpty) = true then some all else none
  | x :: r, n, complete, all =>
    if (complete && decide (x.toNat = 128)) = true then none
    else if maxArc < n * 128 + x.toNat % 128 then none
    else if x.toNat < 128 then rdP r 0 true (all ++ [n * 128 + x.toNat % 128])
    else rdP r (n * 128 + x.toNat % 128) false all
theorem rdP_sub (k : Nat) : ∀ n ≤ k, 0 < n → n ≤ maxArc → ∀ (r : List UInt8) (all : List Nat), rdP (subO n false ++ r) 0 true all = rdP r n false all := by
  induction k using Nat.strongRecOn with
  | _ k ih =>
    intro n hn h0 hm r all
    by_cases h : n < 128
    · rw [subO_small h, if_neg (by simp), List.singleton_append, rdP, byte_hi h]
      have e : 0 * 128 + (n + 128) % 128 = n := by omega
      rw [e, if_neg (by simp; omega), if_neg (by omega), if_neg (by omega)]
    · have hb := byte_hi (show n % 128 < 128 by omega)
      rw [subO_big h, if_neg (by simp), List.append_assoc, ih (n / 128) (by omega) (n / 128) (Nat.le_refl _) (by omega) (by omega), List.singleton_append, rdP, hb]
      have e : n / 128 * 128 + (n % 128 + 128) % 128 = n := by omega
      rw [e, if_neg (by simp), if_neg (by omega), if_neg (by omega)]
theorem rdP_last {n : Nat} (hm : n ≤ maxArc) (r : List UInt8) (all : List Nat) : rdP (subO n true ++ r) 0 true all = rdP r 0 true (all ++ [n]) := by
  by_cases h : n < 128
  · rw [subO_small h, if_pos rfl, List.singleton_append, rdP, byte_lo h]
    have e : 0 * 128 + n % 128 = n := by omega
    rw [e, if_neg (by simp; omega), if_neg (by omega), if_pos h]
  · have hb := byte_lo (show n % 128 < 128 by omega)
    rw [subO_big h, if_pos rfl, List.append_assoc, rdP_sub _ (n / 128) (Nat.le_refl _) (by omega) (by omega), List.singleton_append, rdP, hb]
    have e : n / 128 * 128 + n % 128 % 128 = n := by omega
    rw [e, if_neg (by simp), if_neg (by omega), if_pos (by omega)]
theorem rdP_subs : ∀ (ss : List Nat), (∀ x ∈ ss, x ≤ maxArc) → ∀ all, all ++ ss ≠ [] → rdP (subsO ss) 0 true all = some (all ++ ss)
  | [], _, all, h => by
    rw [List.append_nil] at h ⊢
    show rdP [] 0 true all = _
    rw [rdP, if_pos (by simpa using h)]
  | s :: ss, hb, all, _ => by
    show rdP (subO s true ++ subsO ss) 0 true all = _
    rw [rdP_last (hb s (by simp)), rdP_subs ss (fun y hy => hb y (by simp [hy])) _ (by simp)]
    simp
theorem subs_snoc (all : List Nat) (n : Nat) : subsO (all ++ [n]) = subsO all ++ subO n true := by simp [subsO]
/-- what has been read so far -/
def Held (p : List UInt8) (n : Nat) (complete : Bool) (all : List Nat) : Prop :=
  (∀ x ∈ all, x ≤ maxArc) ∧ n ≤ maxArc ∧ (complete = true → n = 0 ∧ p = subsO all) ∧ (complete = false → 0 < n ∧ p = subsO all ++ subO n false)
theorem byte_back (x : UInt8) : UInt8.ofNat x.toNat = x := by simp
theorem held_end {p : List UInt8} {n : Nat} {complete : Bool} {all : List Nat} (h : Held p n complete all) {x : UInt8} (h128 : ¬ (complete && decide (x.toNat = 128)) = true) (hm : ¬ maxArc < n * 128 + x.toNat % 128) (hx : x.toNat < 128) :
    Held (p ++ [x]) 0 true (all ++ [n * 128 + x.toNat % 128]) := by
  obtain ⟨h1, h2, h3, h4⟩ := h
  refine ⟨?_, Nat.zero_le _, fun _ => ⟨rfl, ?_⟩, fun e => (by cases e)⟩
  · intro y hy
    rcases List.mem_append.1 hy with hy | hy
    · exact h1 y hy
    · simp only [List.mem_singleton] at hy
      omega
  · rw [subs_snoc]
    cases complete with
    | true =>
      obtain ⟨h5, h6⟩ := h3 rfl
      subst h5
      rw [h6, show 0 * 128 + x.toNat % 128 = x.toNat from by omega, subO_small hx, if_pos rfl, byte_back]
    | false =>
      obtain ⟨h5, h6⟩ := h4 rfl
      rw [h6, subO_big (n := n * 128 + x.toNat % 128) (by omega), if_pos rfl, show (n * 128 + x.toNat % 128) / 128 = n from by omega, show (n * 128 + x.toNat % 128) % 128 = x.toNat from by omega, byte_back, List.append_assoc]
theorem held_more {p : List UInt8} {n : Nat} {complete : Bool} {all : List Nat} (h : Held p n complete all) {x : UInt8} (h128 : ¬ (complete && decide (x.toNat = 128)) = true) (hm : ¬ maxArc < n * 128 + x.toNat % 128) (hx : ¬ x.toNat < 128) :
    Held (p ++ [x]) (n * 128 + x.toNat % 128) false all := by
  obtain ⟨h1, h2, h3, h4⟩ := h
  have hxb := x.toNat_lt
  refine ⟨h1, by omega, fun e => (by cases e), fun _ => ?_⟩
  cases complete with
  | true =>
    obtain ⟨h5, h6⟩ := h3 rfl
    subst h5
    simp only [Bool.true_and, decide_eq_true_eq] at h128
    refine ⟨by omega, ?_⟩
    rw [h6, show 0 * 128 + x.toNat % 128 = x.toNat - 128 from by omega, subO_small (by omega), if_neg (by simp), show x.toNat - 128 + 128 = x.toNat from by omega, byte_back]
  | false =>
    obtain ⟨h5, h6⟩ := h4 rfl
    refine ⟨by omega, ?_⟩
    rw [h6, subO_big (n := n * 128 + x.toNat % 128) (by omega), if_neg (by simp), show (n * 128 + x.toNat % 128) / 128 = n from by omega, show (n * 128 + x.toNat % 128) % 128 + 128 = x.toNat from by omega, byte_back, List.append_assoc]
theorem rdP_held : ∀ (r p : List UInt8) (n : Nat) (complete : Bool) (all ss : List Nat), Held p n complete all → rdP r n complete all = some ss → ss ≠ [] ∧ (∀ x ∈ ss, x ≤ maxArc) ∧ subsO ss = p ++ r
  | [], p, n, complete, all, ss, h, e => by
    rw [rdP] at e
    split at e
    · rename_i hc
      injection e with e
      subst e
      simp only [Bool.and_eq_true, Bool.not_eq_true', List.isEmpty_eq_false_iff] at hc
      exact ⟨hc.2, h.1, by rw [List.append_nil]; exact (h.2.2.1 hc.1).2.symm⟩
    · cases e
  | x :: r, p, n, complete, all, ss, h, e => by
    rw [rdP] at e
    split at e
    · cases e
    · rename_i h1
      split at e
      · cases e
      · rename_i h2
        split at e
        · rename_i h3
          have := rdP_held r _ _ _ _ ss (held_end h h1 h2 h3) e
          rw [List.append_assoc] at this
          exact this
        · rename_i h3
          have := rdP_held r _ _ _ _ ss (held_more h h1 h2 h3) e
          rw [List.append_assoc] at this
          exact this
theorem held_start : Held [] 0 true [] := ⟨by simp, Nat.zero_le _, fun _ => ⟨rfl, rfl⟩, fun e => by cases e⟩
/-- the program's reading is the definition's -/
theorem dec_prog_some {c : List UInt8} {ss : List Nat} (h : rdP c 0 true [] = some ss) : decO c = some (arcsOf ss) ∧ okO (arcsOf ss) ∧ ss ≠ [] ∧ ∀ x ∈ ss, x ≤ maxArc := by
  obtain ⟨h1, h2, h3⟩ := rdP_held c [] 0 true [] ss held_start h
  obtain ⟨h4, h5⟩ := okO_arcsOf h2 h1
  refine ⟨dec_of h4 ?_, h4, h1, h2⟩
  unfold encO
  rw [h5, h3]
  rfl
theorem dec_prog_none {c : List UInt8} (h : rdP c 0 true [] = none) : decO c = none := by
  rcases hd : decO c with _ | a
  · rfl
  · obtain ⟨h1, h2⟩ := dec_some hd
    obtain ⟨_, h3, h4⟩ := arcsOf_sid h1
    have := rdP_subs (sidO a) h3 [] (by simpa using h4)
    have e : subsO (sidO a) = c := h2
    rw [e, h] at this
    cases this
def dC (c : List UInt8) : Int := if (decO c).isSome = true then 0 else 6
def dT (c : List UInt8) : List UInt8 := match decO c with | some a => textO a | none => []
theorem d_none {c : List UInt8} (h : decO c = none) : dC c = 6 ∧ dT c = [] := by simp [dC, dT, h]
theorem d_some {c : List UInt8} {a : List Nat} (h : decO c = some a) : dC c = 0 ∧ dT c = textO a := by simp [dC, dT, h]
end Go.Proofs.YtepicefbpadbhaaDoor
