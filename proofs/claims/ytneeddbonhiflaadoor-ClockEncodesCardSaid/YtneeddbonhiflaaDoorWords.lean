/-
  Words for slices of bytes that are read: plain lemmas, nothing of a program.
-/
import Derived.Below
import Derived.Laws.OwnMore
import Derived.Deep.Draws
import Derived.Deep.QuietTactic
import Derived.ProofKit
import Derived.OpenShut
import Derived.Lib.Hide
import Derived.Laws.IdiomStrings
import Derived.OwnWalk
namespace Go.Proofs.YtneeddbonhiflaaDoor
open Go.RowKit

/-- the slice value of address a, length n and capacity c has the bytes l, below the end of the heap -/
def Bs (w : World) (a : Option Addr) (n c : Nat) (l : List UInt8) : Prop :=
  l.length = n ∧ n ≤ c ∧ c ≤ maxLen ∧
    (0 < n → ∃ b off, a = some ⟨b, off, none⟩ ∧ b < w.heap.size ∧ ∀ i (h : i < l.length), w.cell? ⟨b, off + i, none⟩ = some (.int .u8 l[i].toNat))

theorem Bs.len {w : World} {a : Option Addr} {n c : Nat} {l : List UInt8} (h : Bs w a n c l) : l.length = n := h.1
theorem Bs.keep {w w' : World} {a : Option Addr} {n c : Nat} {l : List UInt8} (h : Bs w a n c l) (hs : w.heap.size ≤ w'.heap.size)
    (hk : ∀ p : Addr, p.block < w.heap.size → w'.cell? p = w.cell? p) : Bs w' a n c l :=
  ⟨h.1, h.2.1, h.2.2.1, fun hn => by
    obtain ⟨b, off, e, hb, hc⟩ := h.2.2.2 hn
    exact ⟨b, off, e, by omega, fun i hi => (hk _ hb).trans (hc i hi)⟩⟩
theorem Bs.below {w w' : World} {a : Option Addr} {n c : Nat} {l : List UInt8} (h : Bs w a n c l) (hb : Below w.heap.size w w') : Bs w' a n c l :=
  h.keep hb.size fun _ hp => hb.cell hp
theorem Bs.drewN {w : World} {a : Option Addr} {n c : Nat} {l : List UInt8} (h : Bs w a n c l) (k : Nat) : Bs (w.drewN k) a n c l := h
theorem Bs.drew {w : World} {a : Option Addr} {n c : Nat} {l : List UInt8} (h : Bs w a n c l) : Bs w.drew a n c l := h
theorem Bs.alloc {w : World} {a : Option Addr} {n c : Nat} {l : List UInt8} (h : Bs w a n c l) (o : Obj) : Bs (w.alloc o) a n c l :=
  h.keep (by simp) fun p hp => World.cell?_alloc_lt w o p hp
theorem Bs.at_ {w : World} {a : Option Addr} {n c : Nat} {l : List UInt8} {i : Nat} (h : Bs w a n c l) (hi : i < n) :
    ∃ b off, ∃ hl : i < l.length, a = some ⟨b, off, none⟩ ∧ b < w.heap.size ∧ w.cell? ⟨b, off + i, none⟩ = some (.int .u8 l[i].toNat) := by
  obtain ⟨b, off, e, hb, hc⟩ := h.2.2.2 (by omega)
  have hl : i < l.length := by rw [h.1]; exact hi
  exact ⟨b, off, hl, e, hb, hc i hl⟩
theorem Bs.nil_ (w : World) : Bs w none 0 0 [] := ⟨rfl, Nat.le_refl _, by simp [maxLen], fun h => absurd h (by omega)⟩

theorem ret_int {k : IntKind} {a b : Int} (h : a = b) : Ending.returned (.int k a) = .returned (.int k b) := by rw [h]
/-- string(b) of such a slice -/
theorem Bs.conv {P : Program} {w : World} {a : Option Addr} {n c : Nat} {l : List UInt8} (h : Bs w a n c l) {src dst e : TypeId} (hs : P.underlying src = some (.slice e)) (he : P.underlying e = some (.int .u8)) (hd : P.underlying dst = some .string) :
    (convert src dst (.slice a n c)).run P w = .ok (.string ⟨l.toArray⟩) w := by
  obtain ⟨hl, _, _, hx⟩ := h
  subst hl
  cases a with
  | none =>
    rcases Nat.eq_zero_or_pos l.length with h0 | h0
    · have : l = [] := List.eq_nil_of_length_eq_zero h0
      subst this
      show (convert src dst (.slice none 0 c)).run P w = _
      rw [run_convert_bytes_string w src dst e none 0 c hs he hd]
      simp [Conv.bytesToString]
      rfl
    · obtain ⟨b, off, e, _⟩ := hx h0
      cases e
  | some A =>
    refine run_convert_bytes_back w src dst e A c l hs he hd fun j hj => ?_
    obtain ⟨b, off, e, _, hc⟩ := hx (by omega)
    injection e with e
    subst e
    have hp : (⟨b, off, none⟩ : Addr).add j = ⟨b, off + j, none⟩ := by unfold Addr.add; split <;> simp_all
    rw [hp]
    exact hc j hj
/-- equality of byte strings -/
def eqB (xs ys : List UInt8) : Bool := decide (xs = ys)
theorem eqB_self (xs : List UInt8) : eqB xs xs = true := by simp [eqB]
theorem eqB_iff {xs ys : List UInt8} : eqB xs ys = true ↔ xs = ys := by simp [eqB]
theorem eqB_beq (xs ys : List UInt8) : (xs == ys) = eqB xs ys := by
  unfold eqB
  rw [Bool.eq_iff_iff]
  simp
theorem byte_bd (x : UInt8) : (0 : Int) ≤ x.toNat ∧ (x.toNat : Int) ≤ 255 := by
  have := x.toNat_lt; omega

theorem bal {a w : World} (h : Below a.heap.size a w) (o : Obj) : Below a.heap.size a (w.alloc o) := h.alloc h.size o
theorem bthen {a w w' : World} (h : Below a.heap.size a w) (k : Below w.heap.size w w') : Below a.heap.size a w' := h.trans (k.mono h.size)
theorem below_drewN {B : Nat} {a w : World} (h : Below B a w) (n : Nat) : Below B a (w.drewN n) := ⟨h.os, h.tape, h.output, h.size, h.block⟩

theorem bcell {W w1 : World} (hb : Below W.heap.size W w1) : (∀ b o, b < W.heap.size → w1.cell? ⟨b, o, none⟩ = W.cell? ⟨b, o, none⟩) ∧ (∀ b o, b < W.heap.size → w1.frozen? ⟨b, o, none⟩ = W.frozen? ⟨b, o, none⟩) :=
  ⟨fun b o h => hb.cell (p := ⟨b, o, none⟩) h, fun b o h => hb.frozen (p := ⟨b, o, none⟩) h⟩

/-- contracts that leave the caller's world on the left, in a quiet region -/
theorem quiet_left {P : Program} {f : FuncId} {args : Array Value} {w : World} {n : Nat} {v : Value}
    (h : Calls P f args (w.drewN n) fun e w' => e = .returned v ∧ w.drewN n = w') : Calls P f args (w.drewN n) fun e w'' => e = .returned v ∧ ∃ m, w'' = w.drewN m :=
  h.mono fun _ _ ⟨he, hm⟩ => ⟨he, n, hm.symm⟩
theorem quiet_add_left {P : Program} {f : FuncId} {args : Array Value} {w : World} {a n : Nat} {v : Value}
    (h : Calls P f args (w.drewN (a + n)) fun e w' => e = .returned v ∧ w.drewN (a + n) = w') :
    Calls P f args (w.drewN (a + n)) fun e w'' => e = .returned v ∧ ∃ m, w'' = w.drewN (a + m) :=
  h.mono fun _ _ ⟨he, hm⟩ => ⟨he, n, hm.symm⟩

/-! ### a block known whole; the rows of the call's own -/
def cellsOf (l : List UInt8) : List Value := l.map fun x => .int .u8 x.toNat
theorem cellsOf_len (l : List UInt8) : (cellsOf l).length = l.length := by simp [cellsOf]
theorem cellsOf_at {l : List UInt8} {j : Nat} (h : j < l.length) : (cellsOf l)[j]? = some (.int .u8 l[j].toNat) := by simp [cellsOf, h]
theorem cellsOf_get {l : List UInt8} {j : Nat} {u : Value} (h : (cellsOf l)[j]? = some u) : ∃ hj : j < l.length, u = .int .u8 l[j].toNat := by
  simp only [cellsOf, List.getElem?_map] at h
  rcases Nat.lt_or_ge j l.length with hj | hj
  · rw [List.getElem?_eq_getElem hj] at h
    exact ⟨hj, by simpa using h.symm⟩
  · rw [List.getElem?_eq_none hj] at h
    cases h
theorem cellsOf_one (l : List UInt8) : ∀ u ∈ cellsOf l, u.oneCell' = true := by
  intro u hu
  obtain ⟨x, _, rfl⟩ := List.mem_map.1 hu
  rfl
theorem cellsOf_append (l r : List UInt8) : cellsOf (l ++ r) = cellsOf l ++ cellsOf r := by simp [cellsOf]

theorem bs_of_own {w : World} {base : Nat} {e : TypeId} {a : Option Addr} {n c : Nat} {l : List UInt8} (h : w.ownsRow base e 1 (.slice a n c) n (cellsOf l)) : Bs w a n c l := by
  obtain ⟨hl, h⟩ := h
  have hl' : l.length = n := by rw [cellsOf_len] at hl; omega
  rcases h with ⟨hv, hn⟩ | ⟨g, cap, cur, hv, hb, hh, hnc, hm, hs, ht⟩
  · injection hv with h1 h2 h3
    subst h1; subst h2; subst h3
    have : l = [] := List.eq_nil_of_length_eq_zero hl'
    subst this
    exact Bs.nil_ w
  · injection hv with h1 h2 h3
    subst h1; subst h3
    refine ⟨hl', hnc, hm, fun _ => ⟨g, 0, rfl, ?_, fun i hi => ?_⟩⟩
    · rcases Nat.lt_or_ge g w.heap.size with h | h
      · exact h
      · rw [Array.getElem?_eq_none h] at hh; cases hh
    · have e1 : w.cell? ⟨g, 0 + i, none⟩ = cur[0 + i]? := by simp [World.cell?, hh]
      rw [e1, Nat.zero_add]
      have e2 : (cur.toList.take (n * 1))[i]? = some (Value.int .u8 l[i].toNat) := by rw [ht]; exact cellsOf_at hi
      rw [List.getElem?_take_of_lt (by omega)] at e2
      simpa using e2

/-- an owned slice of bytes, made since the heap had B blocks -/
def Own (w : World) (B : Nat) (e : TypeId) (a : Option Addr) (n c : Nat) (l : List UInt8) : Prop := w.ownsRow B e 1 (.slice a n c) n (cellsOf l)
theorem Own.bs {w : World} {B : Nat} {e : TypeId} {a : Option Addr} {n c : Nat} {l : List UInt8} (h : Own w B e a n c l) : Bs w a n c l := bs_of_own h
theorem Own.base {w : World} {B : Nat} {e : TypeId} {a : Option Addr} {n c : Nat} {l : List UInt8} (h : Own w B e a n c l) : ∀ x, a = some x → B ≤ x.block ∧ x.block < w.heap.size := by
  rintro x rfl
  exact h.lt x.block rfl
theorem Own.more {w : World} {B B' : Nat} {e : TypeId} {a : Option Addr} {n c : Nat} {l : List UInt8} (h : Own w B e a n c l) (hB : B' ≤ B) : Own w B' e a n c l := by
  obtain ⟨h1, h2⟩ := h
  refine ⟨h1, ?_⟩
  rcases h2 with h2 | ⟨g, cap, cur, hv, hb, r⟩
  · exact .inl h2
  · exact .inr ⟨g, cap, cur, hv, by omega, r⟩
theorem Own.keep {w w' : World} {B : Nat} {e : TypeId} {a : Option Addr} {n c : Nat} {l : List UInt8} (h : Own w B e a n c l) (hk : ∀ x, a = some x → w'.heap[x.block]? = w.heap[x.block]?) : Own w' B e a n c l := by
  obtain ⟨h1, h2⟩ := h
  refine ⟨h1, ?_⟩
  rcases h2 with h2 | ⟨g, cap, cur, hv, hb, hh, r⟩
  · exact .inl h2
  · refine .inr ⟨g, cap, cur, hv, hb, ?_, r⟩
    injection hv with hv
    rw [hk _ hv]
    exact hh
theorem Own.below {w w' : World} {B : Nat} {e : TypeId} {a : Option Addr} {n c : Nat} {l : List UInt8} (h : Own w B e a n c l) (hb : Below w.heap.size w w') : Own w' B e a n c l :=
  h.keep fun x hx => hb.block _ (h.base x hx).2
theorem Own.form {w : World} {B : Nat} {e : TypeId} {v : Value} {n : Nat} {l : List UInt8} (h : w.ownsRow B e 1 v n (cellsOf l)) : ∃ a c, v = .slice a n c ∧ Own w B e a n c l := by
  rcases h.2 with ⟨rfl, rfl⟩ | ⟨g, cap, cur, rfl, _⟩
  · exact ⟨none, 0, rfl, h⟩
  · exact ⟨_, _, rfl, h⟩

def Blk (w : World) (g : Nat) (t : TypeId) (cs : Array Value) : Prop := w.heap[g]? = some (.cells cs t (0, 0))
theorem Blk.lt {w : World} {g : Nat} {t : TypeId} {cs : Array Value} (h : Blk w g t cs) : g < w.heap.size := by
  rcases Nat.lt_or_ge g w.heap.size with hg | hg
  · exact hg
  · unfold Blk at h; rw [Array.getElem?_eq_none hg] at h; cases h
theorem Blk.cell {w : World} {g : Nat} {t : TypeId} {cs : Array Value} (h : Blk w g t cs) (i : Nat) : w.cell? ⟨g, i, none⟩ = cs[i]? := by
  unfold Blk at h
  simp [World.cell?, h]
theorem Blk.frozen {w : World} {g : Nat} {t : TypeId} {cs : Array Value} (h : Blk w g t cs) (i : Nat) : w.frozen? ⟨g, i, none⟩ = false := by
  unfold Blk at h
  simp [World.frozen?, h]
theorem Blk.new (w : World) (t : TypeId) (cs : Array Value) : Blk (w.alloc (.cells cs t)) w.heap.size t cs := by
  show (w.heap.push _)[w.heap.size]? = _
  simp
theorem Blk.keep {w w' : World} {g : Nat} {t : TypeId} {cs : Array Value} (h : Blk w g t cs) (hk : w'.heap[g]? = w.heap[g]?) : Blk w' g t cs := hk.trans h
theorem Blk.below {w w' : World} {g B : Nat} {t : TypeId} {cs : Array Value} (h : Blk w g t cs) (hb : Below B w w') (hg : g < B) : Blk w' g t cs := h.keep (hb.block g hg)
theorem Blk.set_ {w : World} {g : Nat} {t : TypeId} {cs : Array Value} (h : Blk w g t cs) (i : Nat) (u : Value) : Blk (w.setCell ⟨g, i, none⟩ u) g t (cs.setIfInBounds i u) := by
  unfold Blk at h ⊢
  simp [World.setCell, Array.getElem?_modify, h]

theorem Blk.drewN {w : World} {g : Nat} {t : TypeId} {cs : Array Value} (h : Blk w g t cs) (k : Nat) : Blk (w.drewN k) g t cs := h
theorem Blk.alloc {w : World} {g : Nat} {t : TypeId} {cs : Array Value} (h : Blk w g t cs) (o : Obj) : Blk (w.alloc o) g t cs := h.keep (Below.heap_alloc w o g h.lt)
theorem Blk.far {w : World} {g : Nat} {t : TypeId} {cs : Array Value} (h : Blk w g t cs) {p : Addr} (hp : g ≠ p.block) (u : Value) : Blk (w.setCell p u) g t cs := h.keep (Below.heap_setCell w p u g hp)

theorem Own.far {w : World} {B : Nat} {e : TypeId} {a : Option Addr} {n c : Nat} {l : List UInt8} (h : Own w B e a n c l) {p : Addr} (hp : ∀ x, a = some x → x.block ≠ p.block) (u : Value) : Own (w.setCell p u) B e a n c l :=
  h.keep fun x hx => Below.heap_setCell w p u x.block (hp x hx)

theorem cellsOf_set (l : List UInt8) (j : Nat) (x : UInt8) : cellsOf (l.set j x) = (cellsOf l).set j (.int .u8 x.toNat) := by simp [cellsOf]
theorem Own.stored {w : World} {B : Nat} {e : TypeId} {g n c : Nat} {l : List UInt8} (h : Own w B e (some ⟨g, 0, none⟩) n c l) (j : Nat) (x : UInt8) : Own (w.setCell ⟨g, j, none⟩ (.int .u8 x.toNat)) B e (some ⟨g, 0, none⟩) n c (l.set j x) := by
  unfold Own
  rw [cellsOf_set]
  exact (World.ownsRow.stored h j _).1
theorem Own.cell {w : World} {B : Nat} {e : TypeId} {g n c : Nat} {l : List UInt8} (h : Own w B e (some ⟨g, 0, none⟩) n c l) {j : Nat} (hj : j < l.length) : w.cell? ⟨g, j, none⟩ = some (.int .u8 l[j].toNat) := by
  have hn : l.length = n := h.bs.len
  rw [World.ownsRow.cellAt h j (by omega)]
  exact cellsOf_at hj
theorem Own.frozen {w : World} {B : Nat} {e : TypeId} {g n c : Nat} {l : List UInt8} (h : Own w B e (some ⟨g, 0, none⟩) n c l) (j : Nat) : w.frozen? ⟨g, j, none⟩ = false := World.ownsRow.frozenAt h j
theorem made_zeros (n : Nat) : (madeCells (Value.int .u8 0).cells (n * 1)).toList = cellsOf (List.replicate n 0) := by
  apply List.ext_getElem
  · simp [madeCells, cellsOf]
  · intro i h1 h2
    simp [madeCells, cellsOf, Value.cells]
    rw [show i % 1 = 0 from Nat.mod_one i]
    rfl

/-- the one cell of a new block, as an append asks for it -/
theorem news1 (w : World) (x : Value) (e : TypeId) : ∀ (j : Nat) (u : Value), [x][j]? = some u → (w.alloc (Obj.cells #[x] e)).cell? ((⟨w.heap.size, 0, none⟩ : Addr).add j) = some u := by
  intro j u h
  cases j with
  | zero =>
    have e1 : (⟨w.heap.size, 0, none⟩ : Addr).add 0 = ⟨w.heap.size, 0, none⟩ := rfl
    rw [e1, (Blk.new w e #[x]).cell 0]
    simpa using h
  | succ j => simp at h
theorem Own.append_form {w : World} {B : Nat} {e : TypeId} {v : Value} {n : Nat} {l : List UInt8} {x : UInt8} {z : Int} (h : w.ownsRow B e 1 v n (cellsOf l ++ [Value.int .u8 z])) (hz : z = x.toNat) : ∃ a c, v = .slice a n c ∧ Own w B e a n c (l ++ [x]) := by
  subst hz
  have e1 : cellsOf l ++ [Value.int .u8 x.toNat] = cellsOf (l ++ [x]) := by simp [cellsOf]
  rw [e1] at h
  exact Own.form h

/-! ### a world that differs in one old block alone -/
theorem only_refl (w : World) (r : Option Nat) : w.grownBy w r := ⟨rfl, rfl, rfl, Nat.le_refl _, fun _ _ _ => rfl⟩
theorem only_trans {a b c : World} {r : Option Nat} (h : a.grownBy b r) (k : b.grownBy c r) : a.grownBy c r :=
  ⟨k.os.trans h.os, k.tape.trans h.tape, k.output.trans h.output, Nat.le_trans h.size k.size, fun i hi hn => (k.block i (Nat.lt_of_lt_of_le hi h.size) hn).trans (h.block i hi hn)⟩
theorem only_below {a w : World} (h : Below a.heap.size a w) (r : Option Nat) : a.grownBy w r := ⟨h.os, h.tape, h.output, h.size, fun i hi _ => h.block i hi⟩
theorem only_drewN {a w : World} {r : Option Nat} (h : a.grownBy w r) (n : Nat) : a.grownBy (w.drewN n) r := ⟨h.os, h.tape, h.output, h.size, h.block⟩
theorem only_alloc {a w : World} {r : Option Nat} (h : a.grownBy w r) (o : Obj) : a.grownBy (w.alloc o) r :=
  only_trans h (only_below ((Below.refl _ _).alloc (Nat.le_refl _) o) r)
theorem only_setCell {a w : World} {g : Nat} (h : a.grownBy w (some g)) {p : Addr} (hp : p.block = g ∨ a.heap.size ≤ p.block) (u : Value) : a.grownBy (w.setCell p u) (some g) :=
  ⟨h.os, h.tape, h.output, by simpa [World.setCell] using h.size, fun i hi hn => (Below.heap_setCell w p u i (by
    rintro rfl
    rcases hp with hp | hp
    · exact hn (by rw [hp])
    · omega)).trans (h.block i hi hn)⟩
/-- the one block was made since the heap had B blocks -/
theorem below_only {B : Nat} {a b c : World} {g : Nat} (h : Below B a b) (k : b.grownBy c (some g)) (hB : B ≤ b.heap.size) (hg : B ≤ g) : Below B a c :=
  h.grown k hB fun _ e => by injection e with e; omega
theorem Bs.only {w w' : World} {a : Option Addr} {n c g : Nat} {l : List UInt8} (h : Bs w a n c l) (hk : w.grownBy w' (some g)) (hne : ∀ x, a = some x → x.block ≠ g) : Bs w' a n c l :=
  ⟨h.1, h.2.1, h.2.2.1, fun hn => by
    obtain ⟨b, off, e, hb, hc⟩ := h.2.2.2 hn
    refine ⟨b, off, e, Nat.lt_of_lt_of_le hb hk.size, fun i hi => ?_⟩
    rw [World.cell?_of_block (a := ⟨b, off + i, none⟩) (hk.block b hb (fun e2 => hne _ e (by injection e2)))]
    exact hc i hi⟩
theorem Blk.only {w w' : World} {g h : Nat} {t : TypeId} {cs : Array Value} (hg : Blk w g t cs) (hk : w.grownBy w' (some h)) (hne : g ≠ h) : Blk w' g t cs :=
  hg.keep (hk.block g hg.lt (fun e => hne (by injection e)))
theorem Own.only {w w' : World} {B : Nat} {e : TypeId} {a : Option Addr} {n c g : Nat} {l : List UInt8} (h : Own w B e a n c l) (hk : w.grownBy w' (some g)) (hne : ∀ x, a = some x → x.block ≠ g) : Own w' B e a n c l :=
  h.keep fun x hx => hk.block _ (h.base x hx).2 (fun e2 => hne x hx (by injection e2))
end Go.Proofs.YtneeddbonhiflaaDoor
