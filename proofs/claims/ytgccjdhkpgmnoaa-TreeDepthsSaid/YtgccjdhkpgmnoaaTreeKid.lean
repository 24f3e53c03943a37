/-
  Words for the walks over trees: the five cells of a node's own block, of a kid in its row.
-/
import Derived.Test.YtgccjdhkpgmnoaaTreeOwn
import Derived.Test.YtgccjdhkpgmnoaaTreeMath2
import Derived.Test.YtgccjdhkpgmnoaaSlices
namespace Go.Proofs.Ytgccjdhkpgmnoaa
open Go.RowKit

theorem five {W : World} {g : Nat} {t : TypeId} {x y z u v : Value} (h : Blk W g t #[x, y, z, u, v]) : W.cell? ⟨g, 0, none⟩ = some x ∧ W.cell? ⟨g, 1, none⟩ = some y ∧ W.cell? ⟨g, 2, none⟩ = some z ∧ W.cell? ⟨g, 3, none⟩ = some u ∧ W.cell? ⟨g, 4, none⟩ = some v ∧ g < W.heap.size := ⟨h.cell 0, h.cell 1, h.cell 2, h.cell 3, h.cell 4, h.lt⟩
/-- a kid of a slice of nodes: where it lies, and its five cells -/
theorem Kds.kid {w : World} {R : Nat → Prop} {ka : Option Addr} {kn kc : Nat} {ts : List Tree} (h : Kds w R ka kn kc ts) {i : Nat} (hi : i < kn) :
    ∃ kb ko, ∃ hl : i < ts.length, ka = some ⟨kb, ko, none⟩ ∧ kb < w.heap.size ∧ ∃ (c n : Int) (k : Bool) (a : Option Addr) (m d : Nat) (ka' : Option Addr) (kn' kc' : Nat),
      w.cell? ⟨kb, ko + i * 5, none⟩ = some (.int .i64 c) ∧ w.cell? ⟨kb, ko + i * 5 + 1, none⟩ = some (.int .i64 n) ∧ w.cell? ⟨kb, ko + i * 5 + 2, none⟩ = some (.bool k) ∧ w.cell? ⟨kb, ko + i * 5 + 3, none⟩ = some (.slice a m d) ∧
      w.cell? ⟨kb, ko + i * 5 + 4, none⟩ = some (.slice ka' kn' kc') ∧ NdCs w R [.int .i64 c, .int .i64 n, .bool k, .slice a m d, .slice ka' kn' kc'] ts[i] := by
  obtain ⟨kb, ko, hl, e, hb, _, cs, h1, h2, h3⟩ := h.at_ hi
  refine ⟨kb, ko, hl, e, hb, ?_⟩
  generalize ts[i] = t at *
  cases t with
  | node c n k content kids =>
    obtain ⟨a, m, d, ka', kn', kc', rfl, g1, g2⟩ := h1
    exact ⟨c, n, k, a, m, d, ka', kn', kc', h3 0 _ rfl, h3 1 _ rfl, h3 2 _ rfl, h3 3 _ rfl, h3 4 _ rfl, a, m, d, ka', kn', kc', rfl, g1, g2⟩
theorem NdCs.parts {w : World} {R : Nat → Prop} {cs : List Value} {c n : Int} {k : Bool} {l : List UInt8} {ks : List Tree} (h : NdCs w R cs (.node c n k l ks)) :
    ∃ a m d ka kn kc, cs = [.int .i64 c, .int .i64 n, .bool k, .slice a m d, .slice ka kn kc] ∧ BsR w R a m d l ∧ Kds w R ka kn kc ks ∧ l.length = m ∧ ks.length = kn ∧ m ≤ maxLen ∧ kn ≤ kc ∧ kc ≤ maxLen := by
  obtain ⟨a, m, d, ka, kn, kc, e, h1, h2⟩ := h
  exact ⟨a, m, d, ka, kn, kc, e, h1, h2, h1.1.1, h2.1, Nat.le_trans h1.1.2.1 h1.1.2.2.1, h2.2.1, h2.2.2.1⟩

theorem sizTs_take : ∀ (ts : List Tree) (i : Nat) (h : i < ts.length), sizTs (ts.take (i + 1)) = sizTs (ts.take i) + sizT ts[i]
  | [], _, h => absurd h (by simp)
  | t :: ts, 0, _ => by simp [sizTs]
  | t :: ts, i + 1, h => by
    have := sizTs_take ts i (by simpa using h)
    simp only [List.take_succ_cons, sizTs, List.getElem_cons_succ, this]
    omega
theorem sizTs_take_le : ∀ (ts : List Tree) (i : Nat), sizTs (ts.take i) ≤ sizTs ts
  | [], i => by simp
  | t :: ts, 0 => by simp [sizTs]
  | t :: ts, i + 1 => by
    have := sizTs_take_le ts i
    simp only [List.take_succ_cons, sizTs]
    omega
theorem sizT_pos (t : Tree) : 1 ≤ sizT t := by cases t; unfold sizT; omega
theorem sizTs_at (ts : List Tree) (i : Nat) (h : i < ts.length) : sizT ts[i] ≤ sizTs ts := by
  have := sizTs_take ts i h
  have := sizTs_take_le ts (i + 1)
  omega
theorem len_sizTs : ∀ ts : List Tree, ts.length ≤ sizTs ts
  | [] => by simp
  | t :: ts => by
    have := len_sizTs ts
    have := sizT_pos t
    simp only [List.length_cons, sizTs]
    omega
theorem cntTs_take : ∀ (ts : List Tree) (i : Nat) (h : i < ts.length), cntTs (ts.take (i + 1)) = cntTs (ts.take i) + cntT ts[i]
  | [], _, h => absurd h (by simp)
  | t :: ts, 0, _ => by simp [cntTs]
  | t :: ts, i + 1, h => by
    have := cntTs_take ts i (by simpa using h)
    simp only [List.take_succ_cons, cntTs, List.getElem_cons_succ, this]
    omega
mutual
  theorem cnt_le_siz : ∀ t : Tree, cntT t ≤ sizT t
    | .node _ _ _ _ kids => by
      have := cnts_le_sizs kids
      unfold cntT sizT
      omega
  theorem cnts_le_sizs : ∀ ts : List Tree, cntTs ts ≤ sizTs ts
    | [] => by simp [cntTs]
    | t :: ts => by
      have := cnt_le_siz t
      have := cnts_le_sizs ts
      unfold cntTs sizTs
      omega
end
theorem depTs_take : ∀ (ts : List Tree) (i : Nat) (h : i < ts.length), depTs (ts.take (i + 1)) = max (depTs (ts.take i)) (depT ts[i])
  | [], _, h => absurd h (by simp)
  | t :: ts, 0, _ => by simp [depTs]
  | t :: ts, i + 1, h => by
    have := depTs_take ts i (by simpa using h)
    simp only [List.take_succ_cons, depTs, List.getElem_cons_succ, this]
    omega
mutual
  theorem dep_le_siz : ∀ t : Tree, depT t ≤ sizT t
    | .node _ _ _ _ kids => by
      have := deps_le_sizs kids
      unfold depT sizT
      omega
  theorem deps_le_sizs : ∀ ts : List Tree, depTs ts ≤ sizTs ts
    | [] => by simp [depTs]
    | t :: ts => by
      have := dep_le_siz t
      have := deps_le_sizs ts
      unfold depTs sizTs
      omega
end
end Go.Proofs.Ytgccjdhkpgmnoaa
