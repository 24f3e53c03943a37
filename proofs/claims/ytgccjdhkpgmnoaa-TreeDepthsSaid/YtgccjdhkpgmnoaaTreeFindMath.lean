/-
  Words for Find: slices of numbers, parts of a slice of nodes, where an element lies.
-/
import Derived.Test.YtgccjdhkpgmnoaaTreeSize
import Derived.Test.YtgccjdhkpgmnoaaTreeFind
import Derived.Test.YtgccjdhkpgmnoaaFrame
namespace Go.Proofs.Ytgccjdhkpgmnoaa
open Go.RowKit

/-- a slice of numbers that is read -/
def Iz (w : World) (a : Option Addr) (n c : Nat) (l : List Int) : Prop :=
  l.length = n ∧ n ≤ c ∧ c ≤ maxLen ∧
    (0 < n → ∃ b off, a = some ⟨b, off, none⟩ ∧ b < w.heap.size ∧ ∀ i (h : i < l.length), w.cell? ⟨b, off + i, none⟩ = some (.int .i64 l[i])) ∧ ∀ z ∈ l, -9223372036854775808 ≤ z ∧ z ≤ 9223372036854775807
theorem Iz.below {w w' : World} {a : Option Addr} {n c : Nat} {l : List Int} (h : Iz w a n c l) (hb : Below w.heap.size w w') : Iz w' a n c l :=
  ⟨h.1, h.2.1, h.2.2.1, fun hn => by
    obtain ⟨b, off, e, hlt, hc⟩ := h.2.2.2.1 hn
    exact ⟨b, off, e, Nat.lt_of_lt_of_le hlt hb.size, fun i hi => (hb.cell (p := ⟨b, off + i, none⟩) hlt).trans (hc i hi)⟩, h.2.2.2.2⟩
theorem Iz.at_ {w : World} {a : Option Addr} {n c : Nat} {l : List Int} {i : Nat} (h : Iz w a n c l) (hi : i < n) :
    ∃ b off, ∃ hl : i < l.length, a = some ⟨b, off, none⟩ ∧ b < w.heap.size ∧ w.cell? ⟨b, off + i, none⟩ = some (.int .i64 l[i]) ∧ -9223372036854775808 ≤ l[i] ∧ l[i] ≤ 9223372036854775807 := by
  obtain ⟨b, off, e, hb, hc⟩ := h.2.2.2.1 (by omega)
  have hl : i < l.length := by rw [h.1]; exact hi
  exact ⟨b, off, hl, e, hb, hc i hl, h.2.2.2.2 _ (List.getElem_mem hl)⟩

theorem KdsAt.drop_ {w : World} {R : Nat → Prop} : ∀ (ts : List Tree) (b o i : Nat), KdsAt w R ts b o → KdsAt w R (ts.drop i) b (o + i * 5)
  | [], _, _, i, _ => by rw [List.drop_nil]; unfold KdsAt; trivial
  | t :: ts, b, o, 0, h => by rw [List.drop_zero, Nat.zero_mul, Nat.add_zero]; exact h
  | t :: ts, b, o, i + 1, h => by
    unfold KdsAt at h
    have := KdsAt.drop_ ts b (o + 5) i h.2
    rw [List.drop_succ_cons, show o + (i + 1) * 5 = o + 5 + i * 5 from by omega]
    exact this
/-- kids[i:] -/
theorem kds_drop {w : World} {R : Nat → Prop} {kb ko kn kc : Nat} {ts : List Tree} (h : Kds w R (some ⟨kb, ko, none⟩) kn kc ts) {i : Nat} (hi : i ≤ kn) :
    Kds w R (if kc = i then some ⟨kb, ko, none⟩ else some ⟨kb, ko + i * 5, none⟩) (kn - i) (kc - i) (ts.drop i) := by
  obtain ⟨h1, h2, h3, h4⟩ := h
  refine ⟨by rw [List.length_drop, h1], by omega, by omega, fun hn => ?_⟩
  rw [if_neg (by omega)]
  obtain ⟨b', o', e, hb, hr, hk⟩ := h4 (by omega)
  injection e with e
  injection e with e1 e2
  subst e1; subst e2
  exact ⟨kb, ko + i * 5, rfl, hb, hr, KdsAt.drop_ ts kb ko i hk⟩
/-- kids[i:i+1] -/
theorem kds_one {w : World} {R : Nat → Prop} {kb ko kn kc : Nat} {ts : List Tree} (h : Kds w R (some ⟨kb, ko, none⟩) kn kc ts) {i : Nat} (hi : i < ts.length) :
    Kds w R (some ⟨kb, ko + i * 5, none⟩) 1 (kc - i) [ts[i]] := by
  obtain ⟨h1, h2, h3, h4⟩ := h
  refine ⟨rfl, by omega, by omega, fun hn => ?_⟩
  obtain ⟨b', o', e, hb, hr, hk⟩ := h4 (by omega)
  injection e with e
  injection e with e1 e2
  subst e1; subst e2
  refine ⟨kb, ko + i * 5, rfl, hb, hr, ?_⟩
  unfold KdsAt
  exact ⟨KdsAt.at_ ts kb ko i hi hk, by unfold KdsAt; trivial⟩

theorem kds_cap {w : World} {R : Nat → Prop} {a : Option Addr} {n c c' : Nat} {ts : List Tree} (h : Kds w R a n c ts) (h1 : n ≤ c') (h2 : c' ≤ maxLen) : Kds w R a n c' ts := ⟨h.1, h1, h2, h.2.2.2⟩
theorem enc_parts {u : Tree} {i : Nat} (hi : i < (kidsOf u).length) : (encTs (kidsOf u)).length = (encTs ((kidsOf u).take i)).length + ((encT (kidsOf u)[i]).length + (encTs ((kidsOf u).drop (i + 1))).length) := by
  have := congrArg List.length (encTs_split (kidsOf u) i hi)
  rw [List.length_append, List.length_append] at this
  exact this
theorem enc_kids_le (u : Tree) : (encTs (kidsOf u)).length + 2 ≤ (encT u).length := by
  have := encT_len u
  have h1 : 1 ≤ (lenOct ((contOf u).length + (encTs (kidsOf u)).length)).length := by
    unfold lenOct
    split
    · rename_i hs
      rw [digits_small (by omega)]
      simp
    · simp
  omega
theorem okT_kids {u : Tree} (h : okT u = true) : okTs (kidsOf u) = true := by
  cases u with
  | node c n k l ks => rw [okT, Bool.and_eq_true] at h; exact h.2
theorem siz_kid {u : Tree} {i : Nat} (hi : i < (kidsOf u).length) : sizT (kidsOf u)[i] + 1 ≤ sizT u := by
  have := sizTs_at _ _ hi
  have := siz_kids u
  omega
theorem sizTs_drop_le : ∀ (ts : List Tree) (i : Nat), sizTs (ts.drop i) ≤ sizTs ts
  | [], i => by simp
  | t :: ts, 0 => by simp
  | t :: ts, i + 1 => by
    have := sizTs_drop_le ts i
    have e : sizTs (t :: ts) = sizT t + sizTs ts := by rw [sizTs]
    rw [List.drop_succ_cons, e]
    omega
theorem encTs_take_len_le (ts : List Tree) (k : Nat) : (encTs (ts.take k)).length ≤ (encTs ts).length := by
  have h : encTs ts = encTs (ts.take k) ++ encTs (ts.drop k) := by rw [← encTs_append, List.take_append_drop]
  rw [h, List.length_append]
  omega
theorem drop_cons {path : List Int} {j : Nat} (h : j < path.length) : path.drop j = path[j] :: path.drop (j + 1) := List.drop_eq_getElem_cons h

/-- what Find leaves -/
def FindPost (w : World) (path : List Int) (r : RT) (e : Ending) (w' : World) : Prop :=
  (match r with
  | .ok t _ => if (locT path t 0).ok = true then e = .returned (.tuple #[.agg #[.int .i64 (locT path t 0).pos, .int .i64 ((locT path t 0).pos + (encT (locT path t 0).t).length : Nat)], .agg #[.int .i64 0, .int .i64 0]])
    else e = .returned (.tuple #[.agg #[.int .i64 0, .int .i64 0], .agg #[.int .i64 10, .int .i64 (locT path t 0).pos]])
  | .err c o => e = .returned (.tuple #[.agg #[.int .i64 0, .int .i64 0], .agg #[.int .i64 c, .int .i64 o]])) ∧ Below w.heap.size w w'
theorem find_not {w w' : World} {path : List Int} {t u : Tree} {s pos : Nat} (h : (⟨false, pos, u⟩ : Loc) = locT path t 0) (hb : Below w.heap.size w w') :
    FindPost w path (.ok t s) (.returned (.tuple #[.agg #[.int .i64 0, .int .i64 0], .agg #[.int .i64 10, .int .i64 pos]])) w' := by
  refine ⟨?_, hb⟩
  simp only []
  rw [← h, if_neg (by simp)]
theorem find_yes {w w' : World} {path : List Int} {t u : Tree} {s pos TO : Nat} (h : (⟨true, pos, u⟩ : Loc) = locT path t 0) (hT : pos + (encT u).length = TO) (hb : Below w.heap.size w w') :
    FindPost w path (.ok t s) (.returned (.tuple #[.agg #[.int .i64 pos, .int .i64 TO], .agg #[.int .i64 0, .int .i64 0]])) w' := by
  refine ⟨?_, hb⟩
  simp only []
  rw [← h, if_pos rfl, hT]
end Go.Proofs.Ytgccjdhkpgmnoaa
