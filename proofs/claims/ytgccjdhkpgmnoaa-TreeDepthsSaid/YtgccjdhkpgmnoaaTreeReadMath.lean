/-
  What readers of trees leave; plain steps of the reading of kids; rows of nodes beside other blocks.
-/
import Derived.Test.YtgccjdhkpgmnoaaTreeSize
import Derived.Test.YtgccjdhkpgmnoaaNextRef
namespace Go.Proofs.Ytgccjdhkpgmnoaa
open Go.RowKit

def zeroN : Value := .agg #[.int .i64 0, .int .i64 0, .bool false, .slice none 0 0, .slice none 0 0]
/-- what a reader of one element leaves: the tree in blocks of its own, or an error at an offset -/
def ReadPost (w : World) (r : RT) (p : Nat) (e : Ending) (w' : World) : Prop :=
  match r with
  | .ok t s => ∃ cs, e = .returned (.tuple #[.agg cs.toArray, .int .i64 (p + s : Nat), erV 0 0]) ∧ NdCs w' (fun b => w.heap.size ≤ b) cs t ∧ Below w.heap.size w w'
  | .err c o => e = .returned (.tuple #[zeroN, .int .i64 0, erV c (p + o)]) ∧ Below w.heap.size w w'

def RK.app (ts : List Tree) : RK → RK
  | .ok us => .ok (ts ++ us)
  | .err c o => .err c o
theorem app_nil (r : RK) : RK.app [] r = r := by cases r <;> rfl
theorem app_cons (ts : List Tree) (t : Tree) (r : RK) : RK.app ts (r.cons t) = RK.app (ts ++ [t]) r := by
  cases r with
  | ok us => simp [RK.app, RK.cons]
  | err c o => rfl
theorem rdKids_nil (f : List UInt8 → RT) (m p : Nat) : rdKids f m [] p = .ok [] := by
  cases m with
  | zero => unfold rdKids; rfl
  | succ m => unfold rdKids; rfl
theorem rdKids_ok_step {f : List UInt8 → RT} {m p s : Nat} {l : List UInt8} {t : Tree} (hl : l ≠ []) (h : f l = .ok t s) : rdKids f (m + 1) l p = (rdKids f m (l.drop s) (p + s)).cons t := by
  cases l with
  | nil => exact absurd rfl hl
  | cons x r =>
    rw [rdKids, h]
theorem rdKids_err_step {f : List UInt8 → RT} {m p c o : Nat} {l : List UInt8} (hl : l ≠ []) (h : f l = .err c o) : rdKids f (m + 1) l p = .err c (p + o) := by
  cases l with
  | nil => exact absurd rfl hl
  | cons x r =>
    rw [rdKids, h]

theorem rdT_bad {d : Nat} {l : List UInt8} (h : ¬ (rdNext l).h.code = 0) : rdT (d + 1) l = .err (rdNext l).h.code (rdNext l).h.off := by
  rw [rdT, if_neg h]
theorem rdT_prim {d : Nat} {l : List UInt8} (h : (rdNext l).h.code = 0) (hk : (rdNext l).h.con = false) : rdT (d + 1) l = .ok (.node (rdNext l).h.cls (rdNext l).h.num false (rdNext l).cont []) ((rdNext l).h.size + (rdNext l).cont.length) := by
  rw [rdT, if_pos h, if_neg (by simp [hk])]
theorem rdT_con_ok {d : Nat} {l : List UInt8} {ts : List Tree} (h : (rdNext l).h.code = 0) (hk : (rdNext l).h.con = true) (hr : rdKids (rdT d) (rdNext l).cont.length (rdNext l).cont (rdNext l).h.size = .ok ts) :
    rdT (d + 1) l = .ok (.node (rdNext l).h.cls (rdNext l).h.num true [] ts) ((rdNext l).h.size + (rdNext l).cont.length) := by
  rw [rdT, if_pos h, if_pos hk, hr]
theorem rdT_con_err {d : Nat} {l : List UInt8} {c o : Nat} (h : (rdNext l).h.code = 0) (hk : (rdNext l).h.con = true) (hr : rdKids (rdT d) (rdNext l).cont.length (rdNext l).cont (rdNext l).h.size = .err c o) :
    rdT (d + 1) l = .err c o := by
  rw [rdT, if_pos h, if_pos hk, hr]
theorem rdNext_bad {l : List UInt8} (hq : ¬ (rdNext l).h.code = 0) : rdNext l = ⟨noHd (rdNext l).h.code (rdNext l).h.off, [], []⟩ := by
  unfold rdNext at hq ⊢
  by_cases h1 : (rdHead l).code = 0
  · rw [if_pos h1] at hq ⊢
    by_cases h2 : l.length - (rdHead l).size < (rdHead l).len
    · rw [if_pos h2]; rfl
    · rw [if_neg h2] at hq; exact absurd h1 hq
  · rw [if_neg h1] at hq ⊢
    conv => lhs; rw [rdHead_err l h1]
theorem rdNext_good {l : List UInt8} (hq : (rdNext l).h.code = 0) : (rdNext l).h = ⟨(rdNext l).h.cls, (rdNext l).h.num, (rdNext l).h.con, (rdNext l).cont.length, (rdNext l).h.size, 0, 0⟩ ∧ (rdNext l).h.size + (rdNext l).cont.length ≤ l.length ∧ (rdNext l).h.size ≤ 6 := by
  have hf := rdNext_fits hq
  unfold rdNext at hq ⊢
  by_cases h1 : (rdHead l).code = 0
  · have hs := rdHead_size h1
    rw [if_pos h1] at hq ⊢
    by_cases h2 : l.length - (rdHead l).size < (rdHead l).len
    · rw [if_pos h2] at hq; exact absurd hq (by simp [noHd])
    · rw [if_neg h2]
      simp only [List.length_take, List.length_drop]
      refine ⟨?_, by omega, by omega⟩
      have e : min (rdHead l).len (l.length - (rdHead l).size) = (rdHead l).len := by omega
      rw [e]
      obtain ⟨_, _, _, _, h5⟩ := hs
      generalize rdHead l = h at *
      obtain ⟨a, b, c, d, e, f, g⟩ := h
      simp only at h1 h5
      subst h1; subst h5
      rfl
  · rw [if_neg h1] at hq
    exact absurd hq h1

/-- a row of nodes: a store into an elder block -/
theorem OwnN.far {w : World} {B : Nat} {e : TypeId} {v : Value} {ts : List Tree} (h : OwnN w B e v ts) {p : Addr} (hp : p.block < B) (u : Value) : OwnN (w.setCell p u) B e v ts := by
  obtain ⟨css, hr, hn⟩ := h
  refine ⟨css, ?_, hn.keep (by simp [World.setCell]) (fun q hq hr => ?_) fun _ _ h => h⟩
  · obtain ⟨h1, h2⟩ := hr
    refine ⟨h1, ?_⟩
    rcases h2 with h2 | ⟨g, cap, cur, hv, hB, hh, r⟩
    · exact .inl h2
    · exact .inr ⟨g, cap, cur, hv, hB, (Below.heap_setCell w p u g (by omega)).trans hh, r⟩
  · exact World.cell?_of_block (Below.heap_setCell w p u q.block (by have := hr.1; omega))
theorem OwnN.nodes {w : World} {B : Nat} {e : TypeId} {v : Value} {ts : List Tree} (h : OwnN w B e v ts) : ∃ css, w.ownsRow B e 5 v ts.length (cellsN css) ∧ Nodes w (Off B v) css ts := h
theorem NdCs.far {w : World} {R : Nat → Prop} {cs : List Value} {t : Tree} (h : NdCs w R cs t) {p : Addr} (hp : ∀ b, R b → b ≠ p.block) (u : Value) : NdCs (w.setCell p u) R cs t :=
  h.keep (by simp [World.setCell]) (fun q hq hr => World.cell?_of_block (Below.heap_setCell w p u q.block (hp _ hr))) fun _ _ h => h
theorem info_node : (Try.prog.info? 26).map (fun i => (i.zero, i.size, i.bytes)) = some (some zeroN, 5, 72) := by kernel_rfl
theorem row_lt {w : World} {B : Nat} {e : TypeId} {a : Option Addr} {n c : Nat} {ts : List Tree} (h : OwnN w B e (.slice a n c) ts) : n = ts.length ∧ ∀ x, a = some x → B ≤ x.block ∧ x.block < w.heap.size := by
  obtain ⟨a', c', e1, h2⟩ := h.form
  injection e1 with e1 e2 e3
  subst e1; subst e2
  exact ⟨rfl, h2⟩
theorem rdT_lim (d : Nat) (l : List UInt8) : match rdT d l with | .ok t s => s ≤ l.length ∧ 2 ≤ s ∧ okT t = true ∧ sizT t ≤ s | .err c o => o ≤ l.length ∧ 1 ≤ c := by
  rcases h : rdT d l with ⟨t, s⟩ | ⟨c, o⟩
  · obtain ⟨h1, _, h3, h4, h5⟩ := (rdT_sound d).ok _ _ _ h
    refine ⟨h3, h5, h1, ?_⟩
    have hl := congrArg List.length h4
    rw [List.length_take] at hl
    have : ∀ t : Tree, sizT t ≤ (encT t).length := by
      intro t
      induction t using Tree.rec (motive_2 := fun ts => sizTs ts ≤ (encTs ts).length) with
      | node c n k l ks ih =>
        rw [encT, encB_len, List.length_append]
        unfold sizT
        omega
      | nil => simp [sizTs]
      | cons t ts ih1 ih2 =>
        rw [encTs_cons, List.length_append]
        unfold sizTs
        omega
    have := this t
    omega
  · exact (rdT_sound d).err _ _ _ h

theorem NdCs.drew {w : World} {R : Nat → Prop} {cs : List Value} {t : Tree} (h : NdCs w R cs t) : NdCs w.drew R cs t := h.keep (Nat.le_refl _) (fun _ _ _ => rfl) fun _ _ h => h
/-- what an append to a row turns: nothing below the row's own base -/
theorem row_below {w w' : World} {B n c : Nat} {a : Option Addr} (hg : w.grownBy w' (Value.ownBlock (.slice a n c))) (ha : ∀ x, a = some x → B ≤ x.block) (hz : B ≤ w.heap.size) : Below B w w' :=
  (Below.refl B w).grown hg hz fun k hk => by
    cases a with
    | none => simp [Value.ownBlock] at hk
    | some x =>
      simp only [Value.ownBlock, Option.some.injEq] at hk
      have := ha x rfl
      omega
/-- the parts of a node just read lie beside a row -/
theorem NdCs.off {w : World} {B S : Nat} {a : Option Addr} {n c : Nat} {cs : List Value} {t : Tree} (h : NdCs w (fun b => S ≤ b) cs t) (hB : B ≤ S) (ha : ∀ x, a = some x → x.block < S) : NdCs w (Off B (.slice a n c)) cs t :=
  h.weak fun b _ hb => ⟨by omega, by
    cases a with
    | none => simp [Value.ownBlock]
    | some x =>
      have := ha x rfl
      simp only [Value.ownBlock, ne_eq, Option.some.injEq]
      omega⟩
theorem info_parts5 {o : Option TypeInfo} {z : Value} {a b : Nat} (h : o.map (fun i => (i.zero, i.size, i.bytes)) = some (some z, a, b)) : ∃ i, o = some i ∧ i.zero = some z ∧ i.size = a ∧ i.bytes = b := by
  cases o with
  | none => cases h
  | some i =>
    simp only [Option.map_some, Option.some.injEq, Prod.mk.injEq] at h
    exact ⟨i, rfl, h.1, h.2.1, h.2.2⟩
theorem cell_far' {w : World} {b g i j : Nat} {u : Value} (h : g ≠ b) : (w.setCell ⟨b, i, none⟩ u).cell? ⟨g, j, none⟩ = w.cell? ⟨g, j, none⟩ :=
  World.cell?_of_block (a := ⟨g, j, none⟩) (Below.heap_setCell w ⟨b, i, none⟩ u g h)
theorem heap_res7 {w : World} {B g : Nat} {u0 u1 u2 u3 u4 u5 u6 : Value} (h : B + 1 < g) :
    (((((((w.setCell ⟨B, 0, none⟩ u0).setCell ⟨B, 1, none⟩ u1).setCell ⟨B, 2, none⟩ u2).setCell ⟨B, 3, none⟩ u3).setCell ⟨B, 4, none⟩ u4).setCell ⟨B + 1, 0, none⟩ u5).setCell ⟨B + 1, 1, none⟩ u6).heap[g]? = w.heap[g]? := by
  have h0 : g ≠ B := by omega
  have h1 : g ≠ B + 1 := by omega
  rw [Below.heap_setCell _ ⟨B + 1, 1, none⟩ _ g h1, Below.heap_setCell _ ⟨B + 1, 0, none⟩ _ g h1, Below.heap_setCell _ ⟨B, 4, none⟩ _ g h0, Below.heap_setCell _ ⟨B, 3, none⟩ _ g h0, Below.heap_setCell _ ⟨B, 2, none⟩ _ g h0, Below.heap_setCell _ ⟨B, 1, none⟩ _ g h0, Below.heap_setCell _ ⟨B, 0, none⟩ _ g h0]
/-- the two results are stored -/
def stored7 (w : World) (B : Nat) (u0 u1 u2 u3 u4 u5 u6 : Value) : World :=
  ((((((w.setCell ⟨B, 0, none⟩ u0).setCell ⟨B, 1, none⟩ u1).setCell ⟨B, 2, none⟩ u2).setCell ⟨B, 3, none⟩ u3).setCell ⟨B, 4, none⟩ u4).setCell ⟨B + 1, 0, none⟩ u5).setCell ⟨B + 1, 1, none⟩ u6
theorem read_stored {w wd : World} {t : Tree} {cs : List Value} {B : Nat} {u0 u1 u2 u3 u4 u5 u6 : Value} (hN : NdCs wd (fun b => B + 2 ≤ b) cs t) (hb : Below B w wd) :
    NdCs (stored7 wd B u0 u1 u2 u3 u4 u5 u6) (fun b => B ≤ b) cs t ∧ Below B w (stored7 wd B u0 u1 u2 u3 u4 u5 u6) := by
  refine ⟨hN.keep (by simp [stored7, World.setCell]) (fun p _ hr => World.cell?_of_block (heap_res7 (by omega))) fun _ _ h => by omega, ?_⟩
  exact below_at1 (below_at1 (below_at (below_at (below_at (below_at (below_at hb _ _) _ _) _ _) _ _) _ _) _ _) _ _
end Go.Proofs.Ytgccjdhkpgmnoaa
