/-
  Kids of the call's own: a row of nodes that grows by append.
-/
import Derived.Test.YtgccjdhkpgmnoaaTreeAt
import Derived.Deep.AppendLies
namespace Go.Proofs.Ytgccjdhkpgmnoaa
open Go.RowKit

/-- lists of cells that read as trees -/
def Nodes (w : World) (R : Nat → Prop) (css : List (List Value)) (ts : List Tree) : Prop :=
  css.length = ts.length ∧ ∀ (i : Nat) (h : i < css.length) (h' : i < ts.length), css[i].length = 5 ∧ NdCs w R css[i] ts[i]
theorem Nodes.keep {w w' : World} {R R' : Nat → Prop} {css : List (List Value)} {ts : List Tree} (h : Nodes w R css ts) (hs : w.heap.size ≤ w'.heap.size) (hk : ∀ p : Addr, p.block < w.heap.size → R p.block → w'.cell? p = w.cell? p) (hR : ∀ b, b < w.heap.size → R b → R' b) : Nodes w' R' css ts :=
  ⟨h.1, fun i hi hi' => ⟨(h.2 i hi hi').1, (h.2 i hi hi').2.keep hs hk hR⟩⟩
theorem Nodes.nil_ (w : World) (R : Nat → Prop) : Nodes w R [] [] := ⟨rfl, fun i h => absurd h (by simp)⟩
theorem Nodes.snoc {w : World} {R : Nat → Prop} {css : List (List Value)} {ts : List Tree} {cs : List Value} {t : Tree} (h : Nodes w R css ts) (hl : cs.length = 5) (ht : NdCs w R cs t) : Nodes w R (css ++ [cs]) (ts ++ [t]) := by
  refine ⟨by simp [h.1], fun i hi hi' => ?_⟩
  rcases Nat.lt_or_ge i css.length with hlt | hge
  · rw [List.getElem_append_left hlt, List.getElem_append_left (by rw [← h.1]; exact hlt)]
    exact h.2 i hlt (by rw [← h.1]; exact hlt)
  · have e1 : i = css.length := by simp at hi; omega
    subst e1
    rw [List.getElem_append_right (Nat.le_refl _), List.getElem_append_right (by rw [h.1]; exact Nat.le_refl _)]
    simp only [Nat.sub_self, h.1, List.getElem_cons_zero]
    exact ⟨hl, ht⟩
theorem NdCs.one {w : World} {R : Nat → Prop} {cs : List Value} {t : Tree} (h : NdCs w R cs t) : cs.length = 5 ∧ ∀ u ∈ cs, u.oneCell' = true := by
  cases t with
  | node cls num con content kids =>
    obtain ⟨a, n, c, ka, kn, kc, rfl, _, _⟩ := h
    refine ⟨rfl, fun u hu => ?_⟩
    simp only [List.mem_cons, List.not_mem_nil, or_false] at hu
    rcases hu with rfl | rfl | rfl | rfl | rfl <;> rfl

/-- where the parts of the kids lie: behind block B, and not in the row itself -/
def Off (B : Nat) (v : Value) (b : Nat) : Prop := B ≤ b ∧ some b ≠ v.ownBlock
/-- a row of the call's own with nodes -/
def OwnN (w : World) (B : Nat) (e : TypeId) (v : Value) (ts : List Tree) : Prop :=
  ∃ css, w.ownsRow B e 5 v ts.length (cellsN css) ∧ Nodes w (Off B v) css ts
theorem OwnN.nil_ (w : World) (B : Nat) (e : TypeId) : OwnN w B e (.slice none 0 0) [] := ⟨[], World.ownsRow_nil _ _ _ _, Nodes.nil_ _ _⟩
theorem OwnN.form {w : World} {B : Nat} {e : TypeId} {v : Value} {ts : List Tree} (h : OwnN w B e v ts) : ∃ a c, v = .slice a ts.length c ∧ (∀ x, a = some x → B ≤ x.block ∧ x.block < w.heap.size) := by
  obtain ⟨css, hr, _⟩ := h
  have hlt := hr.lt
  rcases hr.2 with ⟨rfl, h0⟩ | ⟨g, cap, cur, rfl, _⟩
  · exact ⟨none, 0, by rw [h0], fun x hx => by cases hx⟩
  · exact ⟨_, cap, rfl, fun x hx => by injection hx with hx; subst hx; exact hlt g rfl⟩
/-- new blocks alone -/
theorem OwnN.below {w w' : World} {B : Nat} {e : TypeId} {v : Value} {ts : List Tree} (h : OwnN w B e v ts) (hb : Below w.heap.size w w') : OwnN w' B e v ts := by
  obtain ⟨css, hr, hn⟩ := h
  refine ⟨css, ?_, hn.keep hb.size (fun _ hp _ => hb.cell hp) fun _ _ h => h⟩
  obtain ⟨h1, h2⟩ := hr
  refine ⟨h1, ?_⟩
  rcases h2 with h2 | ⟨g, cap, cur, hv, hB, hh, r⟩
  · exact .inl h2
  · refine .inr ⟨g, cap, cur, hv, hB, ?_, r⟩
    rw [hb.block g (by
      rcases Nat.lt_or_ge g w.heap.size with hg | hg
      · exact hg
      · rw [Array.getElem?_eq_none hg] at hh; cases hh)]
    exact hh
/-- behind an append of one node -/
theorem ownN_grown {w w' : World} {B : Nat} {e : TypeId} {v : Value} {ts : List Tree} {css : List (List Value)} {cs : List Value} {t : Tree} {g cap : Nat} (hn : Nodes w (Off B v) css ts) (ht : NdCs w (Off B v) cs t)
    (hown : w'.ownsRow B e 5 (.slice (some ⟨g, 0, none⟩) (ts.length + 1) cap) (ts.length + 1) (cellsN css ++ cs)) (hg : w.grownBy w' v.ownBlock) (hat : v.ownBlock = some g ∨ w.heap.size ≤ g) :
    OwnN w' B e (.slice (some ⟨g, 0, none⟩) (ts.length + 1) cap) (ts ++ [t]) := by
  have hl : (ts ++ [t]).length = ts.length + 1 := by simp
  refine ⟨css ++ [cs], ?_, ?_⟩
  · rw [hl, cellsN_append]
    have e1 : cellsN [cs] = cs := by simp [cellsN]
    rw [e1]
    exact hown
  · refine (hn.snoc ht.one.1 ht).keep hg.size (fun p hp hr => World.cell?_of_block (hg.block p.block hp hr.2)) fun b hb hr => ⟨hr.1, ?_⟩
    rcases hat with hat | hat
    · have hr2 := hr.2
      rw [hat] at hr2
      exact hr2
    · simp only [Value.ownBlock, ne_eq, Option.some.injEq]
      omega
/-- the row, read as a slice of nodes -/
theorem OwnN.kds {w : World} {B : Nat} {e : TypeId} {a : Option Addr} {n c : Nat} {ts : List Tree} (h : OwnN w B e (.slice a n c) ts) : Kds w (fun b => B ≤ b) a n c ts := by
  obtain ⟨css, ⟨h1, h2⟩, hn⟩ := h
  rcases h2 with ⟨hv, h0⟩ | ⟨g, cap, cur, hv, hB, hh, hnc, hm, hs, ht⟩
  · injection hv with e1 e2 e3
    subst e1; subst e2; subst e3
    have : ts = [] := List.eq_nil_of_length_eq_zero h0
    subst this
    exact Kds.nil_ _ _
  · injection hv with e1 e2 e3
    subst e1; subst e2; subst e3
    have hg : g < w.heap.size := by
      rcases Nat.lt_or_ge g w.heap.size with hg | hg
      · exact hg
      · rw [Array.getElem?_eq_none hg] at hh; cases hh
    refine ⟨rfl, hnc, hm, fun hpos => ⟨g, 0, rfl, hg, hB, KdsAt.of ts g 0 fun i hi => ?_⟩⟩
    have hi' : i < css.length := by rw [hn.1]; exact hi
    have hone := hn.2 i hi' hi
    refine NdAt.of (hone.2.weak fun _ _ h => h.1) fun j v hj => ?_
    have hj5 : j < 5 := by
      rcases Nat.lt_or_ge j 5 with h | h
      · exact h
      · rw [List.getElem?_eq_none (by rw [hone.1]; exact h)] at hj; cases hj
    have hc := cellsN_at css i j (fun k hk => (hn.2 k hk (by rw [← hn.1]; exact hk)).1) hi' hj5
    rw [← ht, List.getElem?_take, if_pos (by omega), hj] at hc
    rw [Nat.zero_add]
    simp only [World.cell?, hh]
    simpa using hc
end Go.Proofs.Ytgccjdhkpgmnoaa
