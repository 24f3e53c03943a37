/-
  Plain mathematics of the object identifiers: texts and arcs, contents octets, order.
-/
import Derived.Test.YtepicefbpadbhaaDoorIntDec
namespace Go.Proofs.YtepicefbpadbhaaDoor

/-! ### texts -/
def maxArc : Nat := 4294967295
/-- the number that a text is the notation of, if it is an arc -/
def arcOf (t : List UInt8) : Option Nat := if numOk t = true ∧ dval t ≤ maxArc then some (dval t) else none
theorem decN_all (n : Nat) : (decN n).all isD = true := (decN_ok n n (Nat.le_refl _)).1
theorem decN_ne (n : Nat) : decN n ≠ [] := (decN_ok n n (Nat.le_refl _)).2.2.1
theorem numOk_dec (n : Nat) : numOk (decN n) = true := numOk_of (decN_all n) (by rw [decN_val])
theorem arcOf_dec {n : Nat} (h : n ≤ maxArc) : arcOf (decN n) = some n := by
  unfold arcOf
  rw [decN_val, if_pos ⟨numOk_dec n, h⟩]
theorem arcOf_some {t : List UInt8} {n : Nat} (h : arcOf t = some n) : decN n = t ∧ n ≤ maxArc ∧ n = dval t := by
  unfold arcOf at h
  split at h
  · rename_i h2
    injection h with h
    subst h
    exact ⟨decN_text h2.1, h2.2, rfl⟩
  · cases h
/-- the parts of a text, between the points -/
def splitO : List UInt8 → List (List UInt8)
  | [] => [[]]
  | x :: l => if x = 46 then [] :: splitO l else
    match splitO l with
    | [] => [[x]]
    | s :: r => (x :: s) :: r
def joinO : List (List UInt8) → List UInt8
  | [] => []
  | [s] => s
  | s :: t :: r => s ++ 46 :: joinO (t :: r)
theorem split_ne : ∀ l, splitO l ≠ []
  | [] => by simp [splitO]
  | x :: l => by
    unfold splitO
    split
    · simp
    · split <;> simp
theorem join_split : ∀ l, joinO (splitO l) = l
  | [] => rfl
  | x :: l => by
    have ih := join_split l
    have hne := split_ne l
    unfold splitO
    by_cases hx : x = 46
    · rw [if_pos hx]
      match hs : splitO l, hne with
      | s :: r, _ =>
        rw [hs] at ih
        show [] ++ 46 :: joinO (s :: r) = _
        rw [ih, hx]
        rfl
    · rw [if_neg hx]
      match hs : splitO l, hne with
      | [s], _ =>
        rw [hs] at ih
        show x :: s = _
        rw [← ih]
        rfl
      | s :: t :: r, _ =>
        rw [hs] at ih
        show (x :: s) ++ 46 :: joinO (t :: r) = _
        rw [← ih]
        rfl
theorem split_plain : ∀ s : List UInt8, (∀ x ∈ s, x ≠ 46) → splitO s = [s]
  | [], _ => rfl
  | x :: s, h => by
    unfold splitO
    rw [if_neg (h x (by simp)), split_plain s (fun y hy => h y (by simp [hy]))]
theorem split_cons : ∀ (s r : List UInt8), (∀ x ∈ s, x ≠ 46) → splitO (s ++ 46 :: r) = s :: splitO r
  | [], r, _ => by
    show splitO (46 :: r) = _
    rw [splitO, if_pos rfl]
  | x :: s, r, h => by
    show splitO (x :: (s ++ 46 :: r)) = _
    rw [splitO, if_neg (h x (by simp)), split_cons s r (fun y hy => h y (by simp [hy]))]
theorem split_join : ∀ ss : List (List UInt8), ss ≠ [] → (∀ s ∈ ss, ∀ x ∈ s, x ≠ 46) → splitO (joinO ss) = ss
  | [], h, _ => absurd rfl h
  | [s], _, h => split_plain s (h s (by simp))
  | s :: t :: r, _, h => by
    show splitO (s ++ 46 :: joinO (t :: r)) = _
    rw [split_cons s _ (h s (by simp)), split_join (t :: r) (by simp) (fun u hu => h u (by simp [List.mem_cons.1 hu]))]
theorem decN_no_point (n : Nat) : ∀ x ∈ decN n, x ≠ 46 := by
  intro x hx e
  have h := decN_all n
  rw [List.all_eq_true] at h
  have := h x hx
  rw [e] at this
  exact absurd this (by decide)
/-- arcs that are an object identifier -/
def rightO : List Nat → Bool
  | a :: b :: _ => (decide (a < 2) && decide (b < 40)) || (decide (a = 2) && decide (b ≤ maxArc - 80))
  | _ => false
/-- all parts, if each is an arc -/
def arcsAll : List (List UInt8) → Option (List Nat)
  | [] => some []
  | s :: r =>
    match arcOf s with
    | none => none
    | some n =>
      match arcsAll r with
      | none => none
      | some l => some (n :: l)
def arcsO (l : List UInt8) : Option (List Nat) :=
  match arcsAll (splitO l) with
  | none => none
  | some a => if rightO a = true then some a else none
def textO (a : List Nat) : List UInt8 := joinO (a.map decN)
def okO (a : List Nat) : Prop := rightO a = true ∧ ∀ x ∈ a, x ≤ maxArc
theorem arcsAll_dec : ∀ a : List Nat, (∀ x ∈ a, x ≤ maxArc) → arcsAll (a.map decN) = some a
  | [], _ => rfl
  | x :: a, h => by
    show arcsAll (decN x :: a.map decN) = _
    unfold arcsAll
    rw [arcOf_dec (h x (by simp)), arcsAll_dec a (fun y hy => h y (by simp [hy]))]
theorem arcsAll_some : ∀ {ss : List (List UInt8)} {a : List Nat}, arcsAll ss = some a → a.map decN = ss ∧ ∀ x ∈ a, x ≤ maxArc
  | [], a, h => by
    injection h with h
    subst h
    exact ⟨rfl, by simp⟩
  | s :: r, a, h => by
    unfold arcsAll at h
    split at h
    · cases h
    · rename_i n hn
      split at h
      · cases h
      · rename_i l hl
        injection h with h
        subst h
        obtain ⟨h1, h2⟩ := arcsAll_some hl
        obtain ⟨h3, h4, _⟩ := arcOf_some hn
        refine ⟨by rw [List.map_cons, h1, h3], ?_⟩
        intro x hx
        rcases List.mem_cons.1 hx with rfl | hx
        · exact h4
        · exact h2 x hx
theorem right_ne {a : List Nat} (h : rightO a = true) : a ≠ [] := by rintro rfl; cases h
theorem arcs_text {a : List Nat} (h : okO a) : arcsO (textO a) = some a := by
  unfold arcsO textO
  rw [split_join _ (by simpa using right_ne h.1) (by
    intro s hs x hx
    obtain ⟨n, _, rfl⟩ := List.mem_map.1 hs
    exact decN_no_point n x hx), arcsAll_dec a h.2]
  show (if rightO a = true then some a else none) = _
  rw [if_pos h.1]
theorem arcs_some {l : List UInt8} {a : List Nat} (h : arcsO l = some a) : okO a ∧ textO a = l := by
  unfold arcsO at h
  split at h
  · cases h
  · rename_i b hb
    split at h
    · rename_i hr
      injection h with h
      subst h
      obtain ⟨h1, h2⟩ := arcsAll_some hb
      exact ⟨⟨hr, h2⟩, by unfold textO; rw [h1, join_split]⟩
    · cases h
theorem text_inj {a b : List Nat} (ha : okO a) (hb : okO b) (h : textO a = textO b) : a = b := by
  have h1 := arcs_text ha
  rw [h, arcs_text hb] at h1
  exact (Option.some.inj h1).symm

/-! ### contents octets -/
/-- the octets of a subidentifier; all but the last one with 128 added -/
def subO (n : Nat) (last : Bool) : List UInt8 :=
  if h : n < 128 then [UInt8.ofNat (if last = true then n else n + 128)]
  else subO (n / 128) false ++ [UInt8.ofNat (if last = true then n % 128 else n % 128 + 128)]
termination_by n
decreasing_by omega
theorem subO_small {n : Nat} (h : n < 128) (last : Bool) : subO n last = [UInt8.ofNat (if last = true then n else n + 128)] := by rw [subO, dif_pos h]
theorem subO_big {n : Nat} (h : ¬ n < 128) (last : Bool) : subO n last = subO (n / 128) false ++ [UInt8.ofNat (if last = true then n % 128 else n % 128 + 128)] := by rw [subO, dif_neg h]
theorem subO_ne (n : Nat) (last : Bool) : subO n last ≠ [] := by
  by_cases h : n < 128
  · rw [subO_small h]; simp
  · rw [subO_big h]; simp
def subsO (ss : List Nat) : List UInt8 := (ss.map fun n => subO n true).flatten
/-- the subidentifiers of arcs -/
def sidO : List Nat → List Nat
  | a :: b :: r => (40 * a + b) :: r
  | _ => []
def encO (a : List Nat) : List UInt8 := subsO (sidO a)
/-- the octets read as subidentifiers (what is left over at the end is not looked at) -/
def rdS : List UInt8 → Nat → List Nat → Option (List Nat)
  | [], _, all => some all
  | x :: r, n, all =>
    if maxArc < n * 128 + x.toNat % 128 then none
    else if x.toNat < 128 then rdS r 0 (all ++ [n * 128 + x.toNat % 128])
    else rdS r (n * 128 + x.toNat % 128) all
theorem byte_lo {n : Nat} (h : n < 128) : (UInt8.ofNat n).toNat = n := by rw [UInt8.toNat_ofNat']; omega
theorem byte_hi {n : Nat} (h : n < 128) : (UInt8.ofNat (n + 128)).toNat = n + 128 := by rw [UInt8.toNat_ofNat']; omega
theorem rdS_sub (k : Nat) : ∀ n ≤ k, n ≤ maxArc → ∀ (r : List UInt8) (all : List Nat), rdS (subO n false ++ r) 0 all = rdS r n all := by
  induction k using Nat.strongRecOn with
  | _ k ih =>
    intro n hn hm r all
    by_cases h : n < 128
    · rw [subO_small h, if_neg (by simp), List.singleton_append, rdS, byte_hi h]
      have e : 0 * 128 + (n + 128) % 128 = n := by omega
      rw [e, if_neg (by omega), if_neg (by omega)]
    · have hb := byte_hi (show n % 128 < 128 by omega)
      rw [subO_big h, if_neg (by simp), List.append_assoc, ih (n / 128) (by omega) (n / 128) (Nat.le_refl _) (by omega), List.singleton_append, rdS, hb]
      have e : n / 128 * 128 + (n % 128 + 128) % 128 = n := by omega
      rw [e, if_neg (by omega), if_neg (by omega)]
theorem rdS_last {n : Nat} (hm : n ≤ maxArc) (r : List UInt8) (all : List Nat) : rdS (subO n true ++ r) 0 all = rdS r 0 (all ++ [n]) := by
  by_cases h : n < 128
  · rw [subO_small h, if_pos rfl, List.singleton_append, rdS, byte_lo h]
    have e : 0 * 128 + n % 128 = n := by omega
    rw [e, if_neg (by omega), if_pos h]
  · have hb := byte_lo (show n % 128 < 128 by omega)
    rw [subO_big h, if_pos rfl, List.append_assoc, rdS_sub _ (n / 128) (Nat.le_refl _) (by omega), List.singleton_append, rdS, hb]
    have e : n / 128 * 128 + n % 128 % 128 = n := by omega
    rw [e, if_neg (by omega), if_pos (by omega)]
theorem rdS_subs : ∀ (ss : List Nat), (∀ x ∈ ss, x ≤ maxArc) → ∀ all, rdS (subsO ss) 0 all = some (all ++ ss)
  | [], _, all => by simp [subsO, rdS]
  | s :: ss, h, all => by
    show rdS (subO s true ++ subsO ss) 0 all = _
    rw [rdS_last (h s (by simp)), rdS_subs ss (fun y hy => h y (by simp [hy]))]
    simp
/-- the arcs of subidentifiers -/
def arcsOf : List Nat → List Nat
  | [] => []
  | s :: r => (if s < 80 then s / 40 else 2) :: (s - 40 * (if s < 80 then s / 40 else 2)) :: r
theorem arcsOf_sid {a : List Nat} (h : okO a) : arcsOf (sidO a) = a ∧ (∀ x ∈ sidO a, x ≤ maxArc) ∧ sidO a ≠ [] := by
  match a, h with
  | x :: y :: r, h =>
    have h1 := h.1
    have hx := h.2 x (by simp)
    have hy := h.2 y (by simp)
    unfold rightO at h1
    simp only [Bool.or_eq_true, Bool.and_eq_true, decide_eq_true_eq] at h1
    refine ⟨?_, ?_, by simp [sidO]⟩
    · show (if 40 * x + y < 80 then (40 * x + y) / 40 else 2) :: (40 * x + y - 40 * (if 40 * x + y < 80 then (40 * x + y) / 40 else 2)) :: r = _
      have e : (if 40 * x + y < 80 then (40 * x + y) / 40 else 2) = x := by
        split <;> omega
      rw [e, show 40 * x + y - 40 * x = y from by omega]
    · intro z hz
      rcases List.mem_cons.1 hz with rfl | hz
      · unfold maxArc at *
        omega
      · exact h.2 z (by simp [hz])
  | [], h => exact absurd h.1 (by simp [rightO])
  | [_], h => exact absurd h.1 (by simp [rightO])
theorem okO_arcsOf {ss : List Nat} (h : ∀ x ∈ ss, x ≤ maxArc) (hne : ss ≠ []) : okO (arcsOf ss) ∧ sidO (arcsOf ss) = ss := by
  match ss, hne with
  | s :: r, _ =>
    have hs := h s (by simp)
    obtain ⟨q, hq⟩ : ∃ q, (if s < 80 then s / 40 else 2) = q := ⟨_, rfl⟩
    have h1 : 40 * q ≤ s ∧ (q < 2 ∧ s - 40 * q < 40 ∨ q = 2 ∧ s - 40 * q ≤ maxArc - 80) := by
      unfold maxArc at *
      rw [← hq]
      split <;> omega
    refine ⟨⟨?_, ?_⟩, ?_⟩
    · show rightO ((if s < 80 then s / 40 else 2) :: (s - 40 * (if s < 80 then s / 40 else 2)) :: r) = true
      rw [hq]
      unfold rightO
      simp only [Bool.or_eq_true, Bool.and_eq_true, decide_eq_true_eq]
      exact h1.2
    · show ∀ x ∈ ((if s < 80 then s / 40 else 2) :: (s - 40 * (if s < 80 then s / 40 else 2)) :: r), x ≤ maxArc
      rw [hq]
      intro x hx
      rcases List.mem_cons.1 hx with rfl | hx
      · unfold maxArc; omega
      · rcases List.mem_cons.1 hx with rfl | hx
        · omega
        · exact h x (by simp [hx])
    · show (40 * (if s < 80 then s / 40 else 2) + (s - 40 * (if s < 80 then s / 40 else 2))) :: r = _
      rw [hq]
      congr 1
      omega
/-- the arcs with these contents octets -/
def decO (c : List UInt8) : Option (List Nat) :=
  match rdS c 0 [] with
  | none => none
  | some ss => if ss ≠ [] ∧ encO (arcsOf ss) = c then some (arcsOf ss) else none
theorem rdS_bd : ∀ (c : List UInt8) (n : Nat) (all ss : List Nat), rdS c n all = some ss → (∀ x ∈ all, x ≤ maxArc) → ∀ x ∈ ss, x ≤ maxArc
  | [], _, all, ss, h, ha => by
    injection h with h
    subst h
    exact ha
  | y :: c, n, all, ss, h, ha => by
    rw [rdS] at h
    split at h
    · cases h
    · rename_i hm
      split at h
      · refine rdS_bd c _ _ ss h ?_
        intro x hx
        rcases List.mem_append.1 hx with hx | hx
        · exact ha x hx
        · simp only [List.mem_singleton] at hx
          omega
      · exact rdS_bd c _ _ ss h ha
theorem dec_enc {a : List Nat} (h : okO a) : decO (encO a) = some a := by
  obtain ⟨h1, h2, h3⟩ := arcsOf_sid h
  unfold decO encO
  rw [rdS_subs _ h2 []]
  show (if [] ++ sidO a ≠ [] ∧ subsO (sidO (arcsOf ([] ++ sidO a))) = subsO (sidO a) then some (arcsOf ([] ++ sidO a)) else none) = _
  rw [List.nil_append, h1, if_pos ⟨h3, rfl⟩]
theorem dec_some {c : List UInt8} {a : List Nat} (h : decO c = some a) : okO a ∧ encO a = c := by
  unfold decO at h
  split at h
  · cases h
  · rename_i ss hss
    split at h
    · rename_i h2
      injection h with h
      subst h
      have hb := rdS_bd c 0 [] ss hss (by simp)
      exact ⟨(okO_arcsOf hb h2.1).1, h2.2⟩
    · cases h
theorem enc_inj {a b : List Nat} (ha : okO a) (hb : okO b) (h : encO a = encO b) : a = b := by
  have h1 := dec_enc ha
  rw [h, dec_enc hb] at h1
  exact (Option.some.inj h1).symm
/-- whoever finds arcs with these octets has found those -/
theorem dec_of {c : List UInt8} {a : List Nat} (h : okO a) (he : encO a = c) : decO c = some a := by rw [← he]; exact dec_enc h

/-! ### order -/
def lexN : List Nat → List Nat → Int
  | [], [] => 0
  | [], _ :: _ => -1
  | _ :: _, [] => 1
  | x :: xs, y :: ys => if x = y then lexN xs ys else sgn x y
theorem lexN_anti : ∀ (xs ys : List Nat), lexN ys xs = - lexN xs ys
  | [], [] => rfl
  | [], _ :: _ => rfl
  | _ :: _, [] => rfl
  | x :: xs, y :: ys => by
    unfold lexN
    by_cases h : x = y
    · rw [if_pos h, if_pos h.symm, lexN_anti xs ys]
    · rw [if_neg h, if_neg (fun e => h e.symm), sgn_anti]
theorem lexN_bd : ∀ (xs ys : List Nat), -1 ≤ lexN xs ys ∧ lexN xs ys ≤ 1
  | [], [] => by simp [lexN]
  | [], _ :: _ => by simp [lexN]
  | _ :: _, [] => by simp [lexN]
  | x :: xs, y :: ys => by
    unfold lexN
    split
    · exact lexN_bd xs ys
    · exact sgn_bd _ _
theorem lexN_zero : ∀ (xs ys : List Nat), lexN xs ys = 0 ↔ xs = ys
  | [], [] => by simp [lexN]
  | [], _ :: _ => by simp [lexN]
  | _ :: _, [] => by simp [lexN]
  | x :: xs, y :: ys => by
    unfold lexN
    by_cases h : x = y
    · rw [if_pos h, lexN_zero xs ys]; simp [h]
    · rw [if_neg h]
      constructor
      · intro h'
        have := sgn_zero h'
        omega
      · intro h'
        simp only [List.cons.injEq] at h'
        exact absurd h'.1 h
theorem lexN_trans : ∀ (xs ys zs : List Nat), lexN xs ys ≤ 0 → lexN ys zs ≤ 0 → lexN xs zs ≤ 0
  | [], _, [], _, _ => by simp [lexN]
  | [], _, _ :: _, _, _ => by simp [lexN]
  | _ :: _, [], _, h, _ => by simp [lexN] at h
  | _ :: _, _ :: _, [], _, h => by simp [lexN] at h
  | x :: xs, y :: ys, z :: zs, h1, h2 => by
    unfold lexN at h1 h2 ⊢
    by_cases hxy : x = y
    · subst hxy
      rw [if_pos rfl] at h1
      by_cases hxz : x = z
      · rw [if_pos hxz] at h2 ⊢
        exact lexN_trans xs ys zs h1 h2
      · rw [if_neg hxz] at h2 ⊢
        exact h2
    · rw [if_neg hxy] at h1
      have l1 : x < y := by
        unfold sgn at h1
        split at h1
        · omega
        · split at h1 <;> omega
      by_cases hyz : y = z
      · subst hyz
        rw [if_neg hxy]
        unfold sgn
        rw [if_pos (by omega)]
        omega
      · rw [if_neg hyz] at h2
        have l2 : y < z := by
          unfold sgn at h2
          split at h2
          · omega
          · split at h2 <;> omega
        rw [if_neg (by omega)]
        unfold sgn
        rw [if_pos (by omega)]
        omega
/-- a sequence that begins with another one does not come before it -/
theorem lexN_prefix : ∀ (p xs : List Nat), p <+: xs → 0 ≤ lexN xs p
  | [], [], _ => by simp [lexN]
  | [], _ :: _, _ => by simp [lexN]
  | _ :: _, [], h => by simp at h
  | y :: p, x :: xs, h => by
    obtain ⟨rfl, h2⟩ := List.cons_prefix_cons.1 h
    unfold lexN
    rw [if_pos rfl]
    exact lexN_prefix p xs h2
theorem lexN_at (k : Nat) : ∀ (xs ys : List Nat), xs.take k = ys.take k → ∀ (h1 : k < xs.length) (h2 : k < ys.length), xs[k] ≠ ys[k] → lexN xs ys = sgn xs[k] ys[k] := by
  induction k with
  | zero =>
    intro xs ys _ h1 h2 hne
    match xs, ys, h1, h2, hne with
    | x :: xs, y :: ys, _, _, hne =>
      simp only [List.getElem_cons_zero] at hne ⊢
      unfold lexN
      rw [if_neg hne]
  | succ k ih =>
    intro xs ys ht h1 h2 hne
    match xs, ys, ht, h1, h2, hne with
    | x :: xs, y :: ys, ht, h1, h2, hne =>
      simp only [List.take_succ_cons, List.cons.injEq] at ht
      simp only [List.getElem_cons_succ] at hne ⊢
      unfold lexN
      rw [if_pos ht.1]
      exact ih xs ys ht.2 _ _ hne
theorem lexN_end : ∀ (xs ys : List Nat), xs.take (min xs.length ys.length) = ys.take (min xs.length ys.length) → lexN xs ys = sgn xs.length ys.length
  | [], [], _ => rfl
  | [], y :: ys, _ => by simp [lexN, sgn]
  | x :: xs, [], _ => by simp [lexN, sgn]; omega
  | x :: xs, y :: ys, h => by
    rw [show min (x :: xs).length (y :: ys).length = min xs.length ys.length + 1 from by simp only [List.length_cons]; omega] at h
    simp only [List.take_succ_cons, List.cons.injEq] at h
    unfold lexN
    rw [if_pos h.1, lexN_end xs ys h.2]
    unfold sgn
    simp only [List.length_cons]
    repeat split
    all_goals omega
/-- Compare and Under of texts -/
def cmpO (a b : List UInt8) : Int := match arcsO a, arcsO b with | some x, some y => lexN x y | _, _ => 0
def undO (s p : List UInt8) : Bool := match arcsO s, arcsO p with | some x, some y => decide (y <+: x) | _, _ => false
def valO (s : List UInt8) : Bool := (arcsO s).isSome
end Go.Proofs.YtepicefbpadbhaaDoor
