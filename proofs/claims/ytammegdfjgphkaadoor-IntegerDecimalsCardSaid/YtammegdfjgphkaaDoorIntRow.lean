/-
  Rows of 64-bit numbers: slices that are read; slices of the call's own.
-/
import Derived.Test.YtammegdfjgphkaaDoorIntUns
import Derived.Test.YtammegdfjgphkaaDoorIntRadix
import Derived.BigRegion
namespace Go.Proofs.YtammegdfjgphkaaDoor
open Go.RowKit

def cellsU (L : List Nat) : List Value := L.map fun x : Nat => .int .u64 (x : Int)
theorem cellsU_len (L : List Nat) : (cellsU L).length = L.length := by simp [cellsU]
theorem cellsU_at {L : List Nat} {j : Nat} (h : j < L.length) : (cellsU L)[j]? = some (.int .u64 L[j]) := by simp [cellsU, h]
theorem cellsU_set (L : List Nat) (j x : Nat) : cellsU (L.set j x) = (cellsU L).set j (.int .u64 x) := by simp [cellsU]
theorem cellsU_snoc (L : List Nat) (x : Nat) : cellsU L ++ [Value.int .u64 x] = cellsU (L ++ [x]) := by simp [cellsU]

def Us (w : World) (a : Option Addr) (n c : Nat) (L : List Nat) : Prop :=
  L.length = n ∧ n ≤ c ∧ c ≤ maxLen ∧
    (0 < n → ∃ b off, a = some ⟨b, off, none⟩ ∧ b < w.heap.size ∧ ∀ i (h : i < L.length), w.cell? ⟨b, off + i, none⟩ = some (.int .u64 L[i]))
theorem Us.len {w : World} {a : Option Addr} {n c : Nat} {L : List Nat} (h : Us w a n c L) : L.length = n := h.1
theorem Us.below {w w' : World} {a : Option Addr} {n c : Nat} {L : List Nat} (h : Us w a n c L) (hb : Below w.heap.size w w') : Us w' a n c L :=
  ⟨h.1, h.2.1, h.2.2.1, fun hn => by
    obtain ⟨b, off, e, hlt, hc⟩ := h.2.2.2 hn
    exact ⟨b, off, e, Nat.lt_of_lt_of_le hlt hb.size, fun i hi => (hb.cell (p := ⟨b, off + i, none⟩) hlt).trans (hc i hi)⟩⟩
theorem Us.at_ {w : World} {a : Option Addr} {n c : Nat} {L : List Nat} {i : Nat} (h : Us w a n c L) (hi : i < n) :
    ∃ b off, ∃ hl : i < L.length, a = some ⟨b, off, none⟩ ∧ b < w.heap.size ∧ w.cell? ⟨b, off + i, none⟩ = some (.int .u64 L[i]) := by
  obtain ⟨b, off, e, hb, hc⟩ := h.2.2.2 (by omega)
  have hl : i < L.length := by rw [h.1]; exact hi
  exact ⟨b, off, hl, e, hb, hc i hl⟩

def OwnU (w : World) (B : Nat) (e : TypeId) (a : Option Addr) (n c : Nat) (L : List Nat) : Prop := w.ownsRow B e 1 (.slice a n c) n (cellsU L)
theorem OwnU.len {w : World} {B : Nat} {e : TypeId} {a : Option Addr} {n c : Nat} {L : List Nat} (h : OwnU w B e a n c L) : L.length = n := by
  have := h.1
  rw [cellsU_len] at this
  omega
theorem OwnU.base {w : World} {B : Nat} {e : TypeId} {a : Option Addr} {n c : Nat} {L : List Nat} (h : OwnU w B e a n c L) : ∀ x, a = some x → B ≤ x.block ∧ x.block < w.heap.size := by
  rintro x rfl
  exact h.lt x.block rfl
theorem OwnU.pos {w : World} {B : Nat} {e : TypeId} {a : Option Addr} {n c : Nat} {L : List Nat} (h : OwnU w B e a n c L) (hn : 0 < n) : ∃ g, a = some ⟨g, 0, none⟩ ∧ B ≤ g ∧ g < w.heap.size := by
  rcases h.2 with ⟨_, h0⟩ | ⟨g, cap, cur, hv, hb, hh, _⟩
  · omega
  · injection hv with h1
    subst h1
    exact ⟨g, rfl, hb, (h.base _ rfl).2⟩
theorem OwnU.stored {w : World} {B : Nat} {e : TypeId} {g n c : Nat} {L : List Nat} (h : OwnU w B e (some ⟨g, 0, none⟩) n c L) (j x : Nat) : OwnU (w.setCell ⟨g, j, none⟩ (.int .u64 x)) B e (some ⟨g, 0, none⟩) n c (L.set j x) := by
  unfold OwnU
  rw [cellsU_set]
  exact (World.ownsRow.stored h j _).1
theorem OwnU.cell {w : World} {B : Nat} {e : TypeId} {g n c : Nat} {L : List Nat} (h : OwnU w B e (some ⟨g, 0, none⟩) n c L) {j : Nat} (hj : j < L.length) : w.cell? ⟨g, j, none⟩ = some (.int .u64 L[j]) := by
  rw [World.ownsRow.cellAt h j (by have := h.len; omega)]
  exact cellsU_at hj
theorem OwnU.frozen {w : World} {B : Nat} {e : TypeId} {g n c : Nat} {L : List Nat} (h : OwnU w B e (some ⟨g, 0, none⟩) n c L) (j : Nat) : w.frozen? ⟨g, j, none⟩ = false := World.ownsRow.frozenAt h j
theorem OwnU.form {w : World} {B : Nat} {e : TypeId} {v : Value} {n : Nat} {L : List Nat} (h : w.ownsRow B e 1 v n (cellsU L)) : ∃ a c, v = .slice a n c ∧ OwnU w B e a n c L := by
  rcases h.2 with ⟨rfl, rfl⟩ | ⟨g, cap, cur, rfl, _⟩
  · exact ⟨none, 0, rfl, h⟩
  · exact ⟨_, _, rfl, h⟩
theorem OwnU.cap {w : World} {B : Nat} {e : TypeId} {a : Option Addr} {n c : Nat} {L : List Nat} (h : OwnU w B e a n c L) : n ≤ c ∧ c ≤ maxLen := by
  rcases h.2 with ⟨hv, h0⟩ | ⟨g, cap, cur, hv, hb, hh, hnc, hm, _⟩
  · injection hv with _ _ h3
    subst h3; subst h0
    simp [maxLen]
  · injection hv with _ _ h3
    subst h3
    exact ⟨hnc, hm⟩
theorem OwnU.us {w : World} {B : Nat} {e : TypeId} {a : Option Addr} {n c : Nat} {L : List Nat} (h : OwnU w B e a n c L) : Us w a n c L := by
  refine ⟨h.len, h.cap.1, h.cap.2, fun hn => ?_⟩
  obtain ⟨g, rfl, _, hg⟩ := h.pos hn
  exact ⟨g, 0, rfl, hg, fun i hi => by rw [Nat.zero_add]; exact h.cell hi⟩
theorem OwnU.keep {w w' : World} {B : Nat} {e : TypeId} {a : Option Addr} {n c : Nat} {L : List Nat} (h : OwnU w B e a n c L) (hk : ∀ x, a = some x → w'.heap[x.block]? = w.heap[x.block]?) : OwnU w' B e a n c L := by
  obtain ⟨h1, h2⟩ := h
  refine ⟨h1, ?_⟩
  rcases h2 with h2 | ⟨g, cap, cur, hv, hb, hh, r⟩
  · exact .inl h2
  · refine .inr ⟨g, cap, cur, hv, hb, ?_, r⟩
    injection hv with hv
    rw [hk _ hv]
    exact hh
theorem OwnU.below {w w' : World} {B : Nat} {e : TypeId} {a : Option Addr} {n c : Nat} {L : List Nat} (h : OwnU w B e a n c L) (hb : Below w.heap.size w w') : OwnU w' B e a n c L :=
  h.keep fun x hx => hb.block _ (h.base x hx).2
theorem OwnU.alloc {w : World} {B : Nat} {e : TypeId} {a : Option Addr} {n c : Nat} {L : List Nat} (h : OwnU w B e a n c L) (o : Obj) : OwnU (w.alloc o) B e a n c L :=
  World.ownsRow.alloc h o
theorem OwnU.more {w : World} {B B' : Nat} {e : TypeId} {a : Option Addr} {n c : Nat} {L : List Nat} (h : OwnU w B e a n c L) (hB : B' ≤ B) : OwnU w B' e a n c L := by
  obtain ⟨h1, h2⟩ := h
  refine ⟨h1, ?_⟩
  rcases h2 with h2 | ⟨g, cap, cur, hv, hb, r⟩
  · exact .inl h2
  · exact .inr ⟨g, cap, cur, hv, by omega, r⟩
theorem OwnU.nil_ (w : World) (B : Nat) (e : TypeId) : OwnU w B e none 0 0 [] := World.ownsRow_nil _ _ _ _
theorem OwnU.drewN {w : World} {B : Nat} {e : TypeId} {a : Option Addr} {n c : Nat} {L : List Nat} (h : OwnU w B e a n c L) (k : Nat) : OwnU (w.drewN k) B e a n c L := h
theorem made_zerosU (n : Nat) : (madeCells (Value.int .u64 0).cells (n * 1)).toList = cellsU (List.replicate n 0) := by
  apply List.ext_getElem
  · simp [madeCells, cellsU]
  · intro i h1 h2
    simp [madeCells, cellsU, Value.cells]
    rw [show i % 1 = 0 from Nat.mod_one i]
    rfl
theorem info_u64 : (Tryd.prog.info? 52).map (fun i => (i.zero, i.size, i.bytes)) = some (some (.int .u64 0), 1, 8) := by kernel_rfl
/-- a radix, as a value -/
def rdx (b s G : Nat) : Value := .agg #[.int .u64 b, .int .i64 s, .int .u64 G]
end Go.Proofs.YtammegdfjgphkaaDoor
