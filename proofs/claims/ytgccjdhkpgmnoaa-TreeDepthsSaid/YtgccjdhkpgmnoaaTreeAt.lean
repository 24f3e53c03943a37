/-
  Trees in memory: a node lies in five cells; its kids in a row of such nodes. R: what is known of the blocks in which its parts lie.
-/
import Derived.Test.YtgccjdhkpgmnoaaWords
import Derived.Test.YtgccjdhkpgmnoaaTreeMath
namespace Go.Proofs.Ytgccjdhkpgmnoaa
open Go.RowKit

/-- a slice of bytes whose block is known to be such a one -/
def BsR (w : World) (R : Nat → Prop) (a : Option Addr) (n c : Nat) (l : List UInt8) : Prop := Bs w a n c l ∧ (0 < n → ∀ x, a = some x → R x.block)
mutual
  def NdAt (w : World) (R : Nat → Prop) : Tree → Nat → Nat → Prop
    | .node cls num con content kids, b, o => w.cell? ⟨b, o, none⟩ = some (.int .i64 cls) ∧ w.cell? ⟨b, o + 1, none⟩ = some (.int .i64 num) ∧ w.cell? ⟨b, o + 2, none⟩ = some (.bool con) ∧
        ∃ a c ka kc, w.cell? ⟨b, o + 3, none⟩ = some (.slice a content.length c) ∧ w.cell? ⟨b, o + 4, none⟩ = some (.slice ka kids.length kc) ∧ BsR w R a content.length c content ∧
          kids.length ≤ kc ∧ kc ≤ maxLen ∧ (0 < kids.length → ∃ kb ko, ka = some ⟨kb, ko, none⟩ ∧ kb < w.heap.size ∧ R kb ∧ KdsAt w R kids kb ko)
  def KdsAt (w : World) (R : Nat → Prop) : List Tree → Nat → Nat → Prop
    | [], _, _ => True
    | t :: ts, b, o => NdAt w R t b o ∧ KdsAt w R ts b (o + 5)
end
/-- a slice of nodes -/
def Kds (w : World) (R : Nat → Prop) (ka : Option Addr) (kn kc : Nat) (ts : List Tree) : Prop :=
  ts.length = kn ∧ kn ≤ kc ∧ kc ≤ maxLen ∧ (0 < kn → ∃ kb ko, ka = some ⟨kb, ko, none⟩ ∧ kb < w.heap.size ∧ R kb ∧ KdsAt w R ts kb ko)
/-- the five cells of a node -/
def NdCs (w : World) (R : Nat → Prop) (cs : List Value) : Tree → Prop
  | .node cls num con content kids => ∃ a n c ka kn kc, cs = [.int .i64 cls, .int .i64 num, .bool con, .slice a n c, .slice ka kn kc] ∧ BsR w R a n c content ∧ Kds w R ka kn kc kids

theorem BsR.keep {w w' : World} {R R' : Nat → Prop} {a : Option Addr} {n c : Nat} {l : List UInt8} (h : BsR w R a n c l) (hs : w.heap.size ≤ w'.heap.size) (hk : ∀ p : Addr, p.block < w.heap.size → R p.block → w'.cell? p = w.cell? p) (hR : ∀ b, b < w.heap.size → R b → R' b) : BsR w' R' a n c l :=
  ⟨⟨h.1.1, h.1.2.1, h.1.2.2.1, fun hn => by
    obtain ⟨b, off, e, hb, hc⟩ := h.1.2.2.2 hn
    exact ⟨b, off, e, by omega, fun i hi => (hk ⟨b, off + i, none⟩ hb (h.2 hn ⟨b, off, none⟩ e)).trans (hc i hi)⟩⟩, fun hn x hx => hR _ (by obtain ⟨b, off, e, hb, _⟩ := h.1.2.2.2 hn; rw [hx] at e; injection e with e; rw [e]; exact hb) (h.2 hn x hx)⟩
mutual
  theorem NdAt.keep {w w' : World} {R R' : Nat → Prop} (hs : w.heap.size ≤ w'.heap.size) (hk : ∀ p : Addr, p.block < w.heap.size → R p.block → w'.cell? p = w.cell? p) (hR : ∀ b, b < w.heap.size → R b → R' b) : ∀ (t : Tree) (b o : Nat), b < w.heap.size → R b → NdAt w R t b o → NdAt w' R' t b o
    | .node cls num con content kids, b, o, hb, hb2, h => by
      unfold NdAt at h ⊢
      obtain ⟨h0, h1, h2, a, c, ka, kc, h3, h4, h5, h6, h7, h8⟩ := h
      refine ⟨(hk _ hb hb2).trans h0, (hk _ hb hb2).trans h1, (hk _ hb hb2).trans h2, a, c, ka, kc, (hk _ hb hb2).trans h3, (hk _ hb hb2).trans h4, h5.keep hs hk hR, h6, h7, fun hn => ?_⟩
      obtain ⟨kb, ko, e, hkb, hkr, hkd⟩ := h8 hn
      exact ⟨kb, ko, e, by omega, hR _ hkb hkr, KdsAt.keep hs hk hR kids kb ko hkb hkr hkd⟩
  theorem KdsAt.keep {w w' : World} {R R' : Nat → Prop} (hs : w.heap.size ≤ w'.heap.size) (hk : ∀ p : Addr, p.block < w.heap.size → R p.block → w'.cell? p = w.cell? p) (hR : ∀ b, b < w.heap.size → R b → R' b) : ∀ (ts : List Tree) (b o : Nat), b < w.heap.size → R b → KdsAt w R ts b o → KdsAt w' R' ts b o
    | [], _, _, _, _, _ => by unfold KdsAt; trivial
    | t :: ts, b, o, hb, hb2, h => by
      unfold KdsAt at h ⊢
      exact ⟨NdAt.keep hs hk hR t b o hb hb2 h.1, KdsAt.keep hs hk hR ts b (o + 5) hb hb2 h.2⟩
end
theorem Kds.keep {w w' : World} {R R' : Nat → Prop} {ka : Option Addr} {kn kc : Nat} {ts : List Tree} (h : Kds w R ka kn kc ts) (hs : w.heap.size ≤ w'.heap.size) (hk : ∀ p : Addr, p.block < w.heap.size → R p.block → w'.cell? p = w.cell? p) (hR : ∀ b, b < w.heap.size → R b → R' b) : Kds w' R' ka kn kc ts :=
  ⟨h.1, h.2.1, h.2.2.1, fun hn => by
    obtain ⟨kb, ko, e, hb, hr, hd⟩ := h.2.2.2 hn
    exact ⟨kb, ko, e, by omega, hR _ hb hr, KdsAt.keep hs hk hR ts kb ko hb hr hd⟩⟩
theorem NdCs.keep {w w' : World} {R R' : Nat → Prop} {cs : List Value} {t : Tree} (h : NdCs w R cs t) (hs : w.heap.size ≤ w'.heap.size) (hk : ∀ p : Addr, p.block < w.heap.size → R p.block → w'.cell? p = w.cell? p) (hR : ∀ b, b < w.heap.size → R b → R' b) : NdCs w' R' cs t := by
  cases t with
  | node cls num con content kids =>
    obtain ⟨a, n, c, ka, kn, kc, e, h1, h2⟩ := h
    exact ⟨a, n, c, ka, kn, kc, e, h1.keep hs hk hR, h2.keep hs hk hR⟩
theorem BsR.below {w w' : World} {R : Nat → Prop} {a : Option Addr} {n c : Nat} {l : List UInt8} (h : BsR w R a n c l) (hb : Below w.heap.size w w') : BsR w' R a n c l := h.keep hb.size (fun _ hp _ => hb.cell hp) fun _ _ h => h
theorem Kds.below {w w' : World} {R : Nat → Prop} {ka : Option Addr} {kn kc : Nat} {ts : List Tree} (h : Kds w R ka kn kc ts) (hb : Below w.heap.size w w') : Kds w' R ka kn kc ts := h.keep hb.size (fun _ hp _ => hb.cell hp) fun _ _ h => h
theorem NdCs.below {w w' : World} {R : Nat → Prop} {cs : List Value} {t : Tree} (h : NdCs w R cs t) (hb : Below w.heap.size w w') : NdCs w' R cs t := h.keep hb.size (fun _ hp _ => hb.cell hp) fun _ _ h => h
/-- one block alone is written, which holds no part of the tree -/
theorem NdCs.only {w w' : World} {R : Nat → Prop} {cs : List Value} {t : Tree} {row : Option Nat} (h : NdCs w R cs t) (hg : w.grownBy w' row) (hne : ∀ b, R b → some b ≠ row) : NdCs w' R cs t :=
  h.keep hg.size (fun p hp hr => World.cell?_of_block (hg.block p.block hp (hne _ hr))) fun _ _ h => h
theorem Kds.only {w w' : World} {R : Nat → Prop} {ka : Option Addr} {kn kc : Nat} {ts : List Tree} {row : Option Nat} (h : Kds w R ka kn kc ts) (hg : w.grownBy w' row) (hne : ∀ b, R b → some b ≠ row) : Kds w' R ka kn kc ts :=
  h.keep hg.size (fun p hp hr => World.cell?_of_block (hg.block p.block hp (hne _ hr))) fun _ _ h => h
theorem NdCs.weak {w : World} {R R' : Nat → Prop} {cs : List Value} {t : Tree} (h : NdCs w R cs t) (hR : ∀ b, b < w.heap.size → R b → R' b) : NdCs w R' cs t := h.keep (Nat.le_refl _) (fun _ _ _ => rfl) hR
theorem Kds.weak {w : World} {R R' : Nat → Prop} {ka : Option Addr} {kn kc : Nat} {ts : List Tree} (h : Kds w R ka kn kc ts) (hR : ∀ b, b < w.heap.size → R b → R' b) : Kds w R' ka kn kc ts := h.keep (Nat.le_refl _) (fun _ _ _ => rfl) hR
theorem BsR.nil_ (w : World) (R : Nat → Prop) : BsR w R none 0 0 [] := ⟨Bs.nil_ w, fun h => absurd h (by omega)⟩
theorem Kds.nil_ (w : World) (R : Nat → Prop) : Kds w R none 0 0 [] := ⟨rfl, Nat.le_refl _, by simp [maxLen], fun h => absurd h (by omega)⟩
theorem Kds.len {w : World} {R : Nat → Prop} {ka : Option Addr} {kn kc : Nat} {ts : List Tree} (h : Kds w R ka kn kc ts) : ts.length = kn := h.1
theorem Own.bsR {w : World} {B : Nat} {e : TypeId} {a : Option Addr} {n c : Nat} {l : List UInt8} (h : Own w B e a n c l) : BsR w (fun b => B ≤ b) a n c l := ⟨h.bs, fun _ x hx => (h.base x hx).1⟩

/-- one of the kids -/
theorem KdsAt.at_ {w : World} {R : Nat → Prop} : ∀ (ts : List Tree) (b o i : Nat) (h : i < ts.length), KdsAt w R ts b o → NdAt w R ts[i] b (o + i * 5)
  | [], _, _, _, h, _ => absurd h (by simp)
  | t :: ts, b, o, i, h, hk => by
    unfold KdsAt at hk
    cases i with
    | zero => simpa using hk.1
    | succ i =>
      have := KdsAt.at_ ts b (o + 5) i (by simpa using h) hk.2
      rw [show o + (i + 1) * 5 = o + 5 + i * 5 from by omega]
      simpa using this
theorem KdsAt.of {w : World} {R : Nat → Prop} : ∀ (ts : List Tree) (b o : Nat), (∀ (i : Nat) (h : i < ts.length), NdAt w R ts[i] b (o + i * 5)) → KdsAt w R ts b o
  | [], _, _, _ => by unfold KdsAt; trivial
  | t :: ts, b, o, h => by
    unfold KdsAt
    refine ⟨by have := h 0 (Nat.succ_pos _); rw [Nat.zero_mul, Nat.add_zero] at this; exact this, KdsAt.of ts b (o + 5) fun i hi => ?_⟩
    have := h (i + 1) (by simpa using hi)
    rw [show o + (i + 1) * 5 = o + 5 + i * 5 from by omega] at this
    simpa using this
/-- a node in its cells -/
theorem NdAt.cells {w : World} {R : Nat → Prop} {t : Tree} {b o : Nat} (h : NdAt w R t b o) : ∃ cs, NdCs w R cs t ∧ cs.length = 5 ∧ ∀ j v, cs[j]? = some v → w.cell? ⟨b, o + j, none⟩ = some v := by
  cases t with
  | node cls num con content kids =>
    unfold NdAt at h
    obtain ⟨h0, h1, h2, a, c, ka, kc, h3, h4, h5, h6, h7, h8⟩ := h
    refine ⟨[.int .i64 cls, .int .i64 num, .bool con, .slice a content.length c, .slice ka kids.length kc], ⟨a, _, c, ka, _, kc, rfl, h5, rfl, h6, h7, h8⟩, rfl, fun j v hj => ?_⟩
    match j, hj with
    | 0, hj => rw [← hj]; exact h0
    | 1, hj => rw [← hj]; exact h1
    | 2, hj => rw [← hj]; exact h2
    | 3, hj => rw [← hj]; exact h3
    | 4, hj => rw [← hj]; exact h4
    | j + 5, hj => simp at hj
theorem NdAt.of {w : World} {R : Nat → Prop} {t : Tree} {b o : Nat} {cs : List Value} (h : NdCs w R cs t) (hc : ∀ j v, cs[j]? = some v → w.cell? ⟨b, o + j, none⟩ = some v) : NdAt w R t b o := by
  cases t with
  | node cls num con content kids =>
    obtain ⟨a, n, c, ka, kn, kc, rfl, h1, h2⟩ := h
    obtain rfl := h1.1.len
    obtain ⟨rfl, h3, h4, h5⟩ := h2
    unfold NdAt
    exact ⟨hc 0 _ rfl, hc 1 _ rfl, hc 2 _ rfl, a, c, ka, kc, hc 3 _ rfl, hc 4 _ rfl, h1, h3, h4, h5⟩
/-- the cells of a kid -/
theorem Kds.at_ {w : World} {R : Nat → Prop} {ka : Option Addr} {kn kc : Nat} {ts : List Tree} (h : Kds w R ka kn kc ts) {i : Nat} (hi : i < kn) :
    ∃ kb ko, ∃ hl : i < ts.length, ka = some ⟨kb, ko, none⟩ ∧ kb < w.heap.size ∧ R kb ∧ ∃ cs, NdCs w R cs ts[i] ∧ cs.length = 5 ∧ ∀ j v, cs[j]? = some v → w.cell? ⟨kb, ko + i * 5 + j, none⟩ = some v := by
  obtain ⟨kb, ko, e, hb, hr, hd⟩ := h.2.2.2 (by omega)
  have hl : i < ts.length := by rw [h.1]; exact hi
  obtain ⟨cs, h1, h2, h3⟩ := (KdsAt.at_ ts kb ko i hl hd).cells
  exact ⟨kb, ko, hl, e, hb, hr, cs, h1, h2, h3⟩

/-! ### kids of the call's own -/
/-- the cells of a list of nodes, one behind the other -/
def cellsN : List (List Value) → List Value := List.flatten
theorem cellsN_append (a b : List (List Value)) : cellsN (a ++ b) = cellsN a ++ cellsN b := List.flatten_append
theorem cellsN_len : ∀ css : List (List Value), (∀ (i : Nat) (h : i < css.length), css[i].length = 5) → (cellsN css).length = css.length * 5
  | [], _ => rfl
  | c :: css, h => by
    have h0 := h 0 (Nat.succ_pos _)
    have h1 := cellsN_len css (fun i hi => by have := h (i + 1) (by simpa using hi); simpa using this)
    show (c ++ cellsN css).length = _
    rw [List.length_append, h1, List.length_cons]
    simp only [List.getElem_cons_zero] at h0
    omega
theorem cellsN_at : ∀ (css : List (List Value)) (i j : Nat), (∀ (i : Nat) (h : i < css.length), css[i].length = 5) → ∀ (hi : i < css.length), j < 5 → (cellsN css)[i * 5 + j]? = css[i][j]?
  | [], _, _, _, hi, _ => absurd hi (by simp)
  | c :: css, i, j, h, hi, hj => by
    have h0 := h 0 (Nat.succ_pos _)
    simp only [List.getElem_cons_zero] at h0
    show (c ++ cellsN css)[i * 5 + j]? = _
    cases i with
    | zero => rw [List.getElem?_append_left (by omega)]; simp
    | succ i =>
      rw [List.getElem?_append_right (by omega), h0, show (i + 1) * 5 + j - 5 = i * 5 + j from by omega]
      rw [cellsN_at css i j (fun i hi => by have := h (i + 1) (by simpa using hi); simpa using this) (by simpa using hi) hj]
      simp
end Go.Proofs.Ytgccjdhkpgmnoaa
