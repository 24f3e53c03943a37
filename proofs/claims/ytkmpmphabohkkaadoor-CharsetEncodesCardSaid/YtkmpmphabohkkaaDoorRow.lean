/-
  Rows of numbers of any kind: slices that are read; slices of the call's own, grown by append.
-/
import Derived.Test.YtkmpmphabohkkaaDoorWords
namespace Go.Proofs.YtkmpmphabohkkaaDoor
open Go.RowKit

def cellsK (k : IntKind) (L : List Nat) : List Value := L.map fun x : Nat => .int k (x : Int)
theorem cellsK_len (k : IntKind) (L : List Nat) : (cellsK k L).length = L.length := by simp [cellsK]
theorem cellsK_at {k : IntKind} {L : List Nat} {j : Nat} (h : j < L.length) : (cellsK k L)[j]? = some (.int k L[j]) := by simp [cellsK, h]
theorem cellsK_set (k : IntKind) (L : List Nat) (j x : Nat) : cellsK k (L.set j x) = (cellsK k L).set j (.int k x) := by simp [cellsK]
theorem cellsK_snoc (k : IntKind) (L : List Nat) (x : Nat) : cellsK k L ++ [Value.int k x] = cellsK k (L ++ [x]) := by simp [cellsK]

def Uk (k : IntKind) (w : World) (a : Option Addr) (n c : Nat) (L : List Nat) : Prop :=
  L.length = n ∧ n ≤ c ∧ c ≤ maxLen ∧
    (0 < n → ∃ b off, a = some ⟨b, off, none⟩ ∧ b < w.heap.size ∧ ∀ i (h : i < L.length), w.cell? ⟨b, off + i, none⟩ = some (.int k L[i]))
theorem Uk.len {k : IntKind} {w : World} {a : Option Addr} {n c : Nat} {L : List Nat} (h : Uk k w a n c L) : L.length = n := h.1
theorem Uk.below {k : IntKind} {w w' : World} {a : Option Addr} {n c : Nat} {L : List Nat} (h : Uk k w a n c L) (hb : Below w.heap.size w w') : Uk k w' a n c L :=
  ⟨h.1, h.2.1, h.2.2.1, fun hn => by
    obtain ⟨b, off, e, hlt, hc⟩ := h.2.2.2 hn
    exact ⟨b, off, e, Nat.lt_of_lt_of_le hlt hb.size, fun i hi => (hb.cell (p := ⟨b, off + i, none⟩) hlt).trans (hc i hi)⟩⟩
theorem Uk.at_ {k : IntKind} {w : World} {a : Option Addr} {n c : Nat} {L : List Nat} {i : Nat} (h : Uk k w a n c L) (hi : i < n) :
    ∃ b off, ∃ hl : i < L.length, a = some ⟨b, off, none⟩ ∧ b < w.heap.size ∧ w.cell? ⟨b, off + i, none⟩ = some (.int k L[i]) := by
  obtain ⟨b, off, e, hb, hc⟩ := h.2.2.2 (by omega)
  have hl : i < L.length := by rw [h.1]; exact hi
  exact ⟨b, off, hl, e, hb, hc i hl⟩

def OwnK (k : IntKind) (w : World) (B : Nat) (e : TypeId) (a : Option Addr) (n c : Nat) (L : List Nat) : Prop := w.ownsRow B e 1 (.slice a n c) n (cellsK k L)
theorem OwnK.len {k : IntKind} {w : World} {B : Nat} {e : TypeId} {a : Option Addr} {n c : Nat} {L : List Nat} (h : OwnK k w B e a n c L) : L.length = n := by
  have := h.1
  rw [cellsK_len] at this
  omega
theorem OwnK.base {k : IntKind} {w : World} {B : Nat} {e : TypeId} {a : Option Addr} {n c : Nat} {L : List Nat} (h : OwnK k w B e a n c L) : ∀ x, a = some x → B ≤ x.block ∧ x.block < w.heap.size := by
  rintro x rfl
  exact h.lt x.block rfl
theorem OwnK.pos {k : IntKind} {w : World} {B : Nat} {e : TypeId} {a : Option Addr} {n c : Nat} {L : List Nat} (h : OwnK k w B e a n c L) (hn : 0 < n) : ∃ g, a = some ⟨g, 0, none⟩ ∧ B ≤ g ∧ g < w.heap.size := by
  rcases h.2 with ⟨_, h0⟩ | ⟨g, cap, cur, hv, hb, hh, _⟩
  · omega
  · injection hv with h1
    subst h1
    exact ⟨g, rfl, hb, (h.base _ rfl).2⟩
theorem OwnK.stored {k : IntKind} {w : World} {B : Nat} {e : TypeId} {g n c : Nat} {L : List Nat} (h : OwnK k w B e (some ⟨g, 0, none⟩) n c L) (j x : Nat) : OwnK k (w.setCell ⟨g, j, none⟩ (.int k x)) B e (some ⟨g, 0, none⟩) n c (L.set j x) := by
  unfold OwnK
  rw [cellsK_set]
  exact (World.ownsRow.stored h j _).1
theorem OwnK.cell {k : IntKind} {w : World} {B : Nat} {e : TypeId} {g n c : Nat} {L : List Nat} (h : OwnK k w B e (some ⟨g, 0, none⟩) n c L) {j : Nat} (hj : j < L.length) : w.cell? ⟨g, j, none⟩ = some (.int k L[j]) := by
  rw [World.ownsRow.cellAt h j (by have := h.len; omega)]
  exact cellsK_at hj
theorem OwnK.frozen {k : IntKind} {w : World} {B : Nat} {e : TypeId} {g n c : Nat} {L : List Nat} (h : OwnK k w B e (some ⟨g, 0, none⟩) n c L) (j : Nat) : w.frozen? ⟨g, j, none⟩ = false := World.ownsRow.frozenAt h j
theorem OwnK.form {k : IntKind} {w : World} {B : Nat} {e : TypeId} {v : Value} {n : Nat} {L : List Nat} (h : w.ownsRow B e 1 v n (cellsK k L)) : ∃ a c, v = .slice a n c ∧ OwnK k w B e a n c L := by
  rcases h.2 with ⟨rfl, rfl⟩ | ⟨g, cap, cur, rfl, _⟩
  · exact ⟨none, 0, rfl, h⟩
  · exact ⟨_, _, rfl, h⟩
theorem OwnK.cap {k : IntKind} {w : World} {B : Nat} {e : TypeId} {a : Option Addr} {n c : Nat} {L : List Nat} (h : OwnK k w B e a n c L) : n ≤ c ∧ c ≤ maxLen := by
  rcases h.2 with ⟨hv, h0⟩ | ⟨g, cap, cur, hv, hb, hh, hnc, hm, _⟩
  · injection hv with _ _ h3
    subst h3; subst h0
    simp [maxLen]
  · injection hv with _ _ h3
    subst h3
    exact ⟨hnc, hm⟩
theorem OwnK.uk {k : IntKind} {w : World} {B : Nat} {e : TypeId} {a : Option Addr} {n c : Nat} {L : List Nat} (h : OwnK k w B e a n c L) : Uk k w a n c L := by
  refine ⟨h.len, h.cap.1, h.cap.2, fun hn => ?_⟩
  obtain ⟨g, rfl, _, hg⟩ := h.pos hn
  exact ⟨g, 0, rfl, hg, fun i hi => by rw [Nat.zero_add]; exact h.cell hi⟩
theorem OwnK.keep {k : IntKind} {w w' : World} {B : Nat} {e : TypeId} {a : Option Addr} {n c : Nat} {L : List Nat} (h : OwnK k w B e a n c L) (hk : ∀ x, a = some x → w'.heap[x.block]? = w.heap[x.block]?) : OwnK k w' B e a n c L := by
  obtain ⟨h1, h2⟩ := h
  refine ⟨h1, ?_⟩
  rcases h2 with h2 | ⟨g, cap, cur, hv, hb, hh, r⟩
  · exact .inl h2
  · refine .inr ⟨g, cap, cur, hv, hb, ?_, r⟩
    injection hv with hv
    rw [hk _ hv]
    exact hh
theorem OwnK.below {k : IntKind} {w w' : World} {B : Nat} {e : TypeId} {a : Option Addr} {n c : Nat} {L : List Nat} (h : OwnK k w B e a n c L) (hb : Below w.heap.size w w') : OwnK k w' B e a n c L :=
  h.keep fun x hx => hb.block _ (h.base x hx).2
theorem OwnK.alloc {k : IntKind} {w : World} {B : Nat} {e : TypeId} {a : Option Addr} {n c : Nat} {L : List Nat} (h : OwnK k w B e a n c L) (o : Obj) : OwnK k (w.alloc o) B e a n c L :=
  World.ownsRow.alloc h o
theorem OwnK.more {k : IntKind} {w : World} {B B' : Nat} {e : TypeId} {a : Option Addr} {n c : Nat} {L : List Nat} (h : OwnK k w B e a n c L) (hB : B' ≤ B) : OwnK k w B' e a n c L := by
  obtain ⟨h1, h2⟩ := h
  refine ⟨h1, ?_⟩
  rcases h2 with h2 | ⟨g, cap, cur, hv, hb, r⟩
  · exact .inl h2
  · exact .inr ⟨g, cap, cur, hv, by omega, r⟩
theorem OwnK.nil_ (k : IntKind) (w : World) (B : Nat) (e : TypeId) : OwnK k w B e none 0 0 [] := World.ownsRow_nil _ _ _ _
theorem OwnK.drewN {k : IntKind} {w : World} {B : Nat} {e : TypeId} {a : Option Addr} {n c : Nat} {L : List Nat} (h : OwnK k w B e a n c L) (q : Nat) : OwnK k (w.drewN q) B e a n c L := h
theorem made_zerosK (k : IntKind) (n : Nat) : (madeCells (Value.int k 0).cells (n * 1)).toList = cellsK k (List.replicate n 0) := by
  apply List.ext_getElem
  · simp [madeCells, cellsK]
  · intro i h1 h2
    simp [madeCells, cellsK, Value.cells]
    rw [show i % 1 = 0 from Nat.mod_one i]
    rfl
/-- behind an append of one number -/
theorem OwnK.append_form {k : IntKind} {w : World} {B : Nat} {e : TypeId} {v : Value} {n : Nat} {L : List Nat} {x : Nat} (h : w.ownsRow B e 1 v n (cellsK k L ++ [Value.int k (x : Int)])) : ∃ a c, v = .slice a n c ∧ OwnK k w B e a n c (L ++ [x]) := by
  rw [cellsK_snoc] at h
  exact OwnK.form h
/-- what an append to a row of the call's own leaves alone -/
theorem OwnK.app_below {k : IntKind} {w w' : World} {B base : Nat} {e : TypeId} {a : Option Addr} {n c : Nat} {L : List Nat} (hown : OwnK k w base e a n c L) (hg : w.grownBy w' (Value.ownBlock (.slice a n c))) (hB : B ≤ base) (hz : B ≤ w.heap.size) : Below B w w' :=
  (Below.refl B w).grown hg hz fun q hq => by
    cases a with
    | none => simp [Value.ownBlock] at hq
    | some x =>
      simp only [Value.ownBlock, Option.some.injEq] at hq
      have := (hown.base x rfl).1
      omega
/-- a literal row, just made -/
theorem ownK_lit {k : IntKind} {w : World} {B : Nat} (e : TypeId) (cs : Array Value) (L : List Nat) (n : Nat) (h : cs.toList = cellsK k L) (hn : L.length = n) (hm : n ≤ maxLen) (hB : B ≤ w.heap.size) : OwnK k (w.alloc (.cells cs e)) B e (some ⟨w.heap.size, 0, none⟩) n n L := by
  have hs : cs.size = n * 1 := by
    have : cs.toList.length = (cellsK k L).length := by rw [h]
    rw [cellsK_len] at this
    simp at this
    omega
  have h1 := World.ownsRow_lit (e := e) (size := 1) (base := B) w cs n hB hm hs
  rw [h] at h1
  exact h1
end Go.Proofs.YtkmpmphabohkkaaDoor
