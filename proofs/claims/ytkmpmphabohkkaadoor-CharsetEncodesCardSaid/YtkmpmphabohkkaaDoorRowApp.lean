/-
  append onto a row of numbers of the call's own: the source is a row of numbers, nil or not.
-/
import Derived.Test.YtkmpmphabohkkaaDoorRow
import Derived.Deep.RegionLaw
import Derived.Tactics
namespace Go.Proofs.YtkmpmphabohkkaaDoor
open Go.RowKit

section
variable {P : Program}
theorem cellsK_one (k : IntKind) (l : List Nat) : ∀ u ∈ cellsK k l, u.oneCell' = true := by
  intro u hu
  obtain ⟨x, _, rfl⟩ := List.mem_map.1 hu
  rfl
theorem cellsK_append (k : IntKind) (l r : List Nat) : cellsK k (l ++ r) = cellsK k l ++ cellsK k r := by simp [cellsK]
theorem cellsK_get {k : IntKind} {l : List Nat} {j : Nat} {u : Value} (h : (cellsK k l)[j]? = some u) : ∃ hj : j < l.length, u = .int k l[j] := by
  simp only [cellsK, List.getElem?_map] at h
  rcases Nat.lt_or_ge j l.length with hj | hj
  · rw [List.getElem?_eq_getElem hj] at h
    exact ⟨hj, by simpa using h.symm⟩
  · rw [List.getElem?_eq_none hj] at h
    cases h
theorem add_off (b o i : Nat) : (⟨b, o, none⟩ : Addr).add i = ⟨b, o + i, none⟩ := by unfold Addr.add; split <;> simp_all
theorem Uk.nil_ (k : IntKind) (w : World) : Uk k w none 0 0 [] := ⟨rfl, Nat.le_refl _, by simp [maxLen], fun h => absurd h (by omega)⟩

theorem run_appK_nil {k : IntKind} (w : World) (base : Nat) (t ty e : TypeId) (i : TypeInfo) (ht : P.underlying t = some (.slice e)) (hi : P.info? e = some i)
    (a : Option Addr) (n c cc : Nat) (l : List Nat) (hown : OwnK k w base e a n c l) : (Builtin.append_ #[t, t] ty #[.slice a n c, .slice none 0 cc]).run P w = .ok (.slice a n c) w := by
  rcases hown.2 with ⟨hv, rfl⟩ | ⟨g, cap, cur, hv, _, _, hnc, _⟩
  · injection hv with h1 h2 h3
    subst h1; subst h3
    simp [Builtin.append_, run_underlying ht, sizeOf, typeInfo, hi, Builtin.lenOf, Builtin.firstCells]
  · injection hv with h1 h2 h3
    subst h1; subst h3
    simp [Builtin.append_, run_underlying ht, sizeOf, typeInfo, hi, Builtin.lenOf, Builtin.firstCells, hnc, storeCells]

theorem run_appK {k : IntKind} (w : World) (base : Nat) (t ty e : TypeId) (i : TypeInfo) (ht : P.underlying t = some (.slice e)) (hi : P.info? e = some i) (hz : i.zero = some (.int k 0)) (hsize : i.size = 1) (hby : i.bytes ≤ 8)
    (a : Option Addr) (n c : Nat) (l : List Nat) (hown : OwnK k w base e a n c l) (A : Option Addr) (m cc : Nat) (r : List Nat) (hr : Uk k w A m cc r) (hlim : n + m ≤ 16777216) (hbase : base ≤ w.heap.size) :
    ∃ a' c' w', (Builtin.append_ #[t, t] ty #[.slice a n c, .slice A m cc]).run P w = .ok (.slice a' (n + m) c') w' ∧ OwnK k w' base e a' (n + m) c' (l ++ r) ∧ w.grownBy w' (Value.ownBlock (.slice a n c)) := by
  obtain ⟨hl, hmc, hcm, hx⟩ := hr
  cases A with
  | none =>
    have hm0 : m = 0 := by
      rcases Nat.eq_zero_or_pos m with h | h
      · exact h
      · obtain ⟨b, off, e, _⟩ := hx h
        cases e
    subst hm0
    have hr0 : r = [] := List.eq_nil_of_length_eq_zero hl
    subst hr0
    exact ⟨a, c, w, run_appK_nil w base t ty e i ht hi a n c cc l hown, by simpa using hown, only_refl w _⟩
  | some ad =>
    have hcells : ∀ j u, (cellsK k r)[j]? = some u → w.cell? (ad.add j) = some u := by
      intro j u hj
      obtain ⟨hj', rfl⟩ := cellsK_get hj
      obtain ⟨b, off, e, hb, hc⟩ := hx (by omega)
      injection e with e
      subst e
      rw [add_off]
      exact hc j hj'
    have hbound : (n + m) * i.bytes ≤ 140737488355328 := Nat.le_trans (Nat.mul_le_mul hlim hby) (by omega)
    obtain ⟨v', w', h1, h2, h3, _⟩ := run_append_own (P := P) w base t ty e i (.int k 0) 1 i.bytes ht hi hz hsize rfl rfl (by decide) (.slice a n c) n (cellsK k l) hown ad m cc (cellsK k r) (by rw [cellsK_len]; omega) hcells (cellsK_one k r) (by unfold maxLen; omega) hbound hbase
    rw [← cellsK_append] at h2
    obtain ⟨a', c', rfl, ho⟩ := OwnK.form h2
    exact ⟨a', c', w', h1, ho, h3⟩

theorem wp_appK {k : IntKind} (w : World) {o : Oper} {act : Act} {K : Act → World → Prop} {Q : Exit → Act → World → Prop} (s x : Operand) (t : TypeId)
    (ho : o.op = .call { callee := .builtin .append, args := #[s, x], argTypes := #[t, t] })
    (base : Nat) (e : TypeId) (i : TypeInfo) (ht : P.underlying t = some (.slice e)) (hi : P.info? e = some i) (hz : i.zero = some (.int k 0)) (hsize : i.size = 1) (hby : i.bytes ≤ 8)
    (a : Option Addr) (n c : Nat) (l : List Nat) (hs : act.eval s = .slice a n c) (hown : OwnK k w base e a n c l) (A : Option Addr) (m cc : Nat) (r : List Nat) (hx : act.eval x = .slice A m cc) (hr : Uk k w A m cc r) (hlim : n + m ≤ 16777216) (hbase : base ≤ w.heap.size)
    (h : ∀ a' c' w', OwnK k w' base e a' (n + m) c' (l ++ r) → w.grownBy w' (Value.ownBlock (.slice a n c)) → K (act.put o.dst (.slice a' (n + m) c')) w') : o.wp P act w K Q := by
  obtain ⟨a', c', w', h1, h2, h3⟩ := run_appK (P := P) w base t o.type e i ht hi hz hsize hby a n c l hown A m cc r hr hlim hbase
  unfold Oper.wp execOp
  simp only [ho, resolve, invoke, builtin, Sem.run_bind, Sem.run_pure, Result.andThen_ok, List.map_toArray, List.map_cons, List.map_nil, hs, hx, h1]
  exact h a' c' w' h2 h3

theorem wpList_appK {k : IntKind} (w : World) {ops : Array Oper} {rest : List Oper} {o : Oper} {act : Act} {Q : Exit → Act → World → Prop} (hgd : o.guard = none) (s x : Operand) (t : TypeId)
    (ho : o.op = .call { callee := .builtin .append, args := #[s, x], argTypes := #[t, t] })
    (base : Nat) (e : TypeId) (i : TypeInfo) (ht : P.underlying t = some (.slice e)) (hi : P.info? e = some i) (hz : i.zero = some (.int k 0)) (hsize : i.size = 1) (hby : i.bytes ≤ 8)
    (a : Option Addr) (n c : Nat) (l : List Nat) (hs : act.eval s = .slice a n c) (hown : OwnK k w base e a n c l) (A : Option Addr) (m cc : Nat) (r : List Nat) (hx : act.eval x = .slice A m cc) (hr : Uk k w A m cc r) (hlim : n + m ≤ 16777216) (hbase : base ≤ w.heap.size)
    (h : ∀ a' c' w', OwnK k w' base e a' (n + m) c' (l ++ r) → w.grownBy w' (Value.ownBlock (.slice a n c)) → wpList P ops Q rest (act.put o.dst (.slice a' (n + m) c')) w') : wpList P ops Q (o :: rest) act w :=
  wpList_plain hgd fun _ hK => wp_appK w s x t ho base e i ht hi hz hsize hby a n c l hs hown A m cc r hx hr hlim hbase fun a' c' w' h2 h3 => hK _ _ (h a' c' w' h2 h3)
end
theorem ownK_made (k : IntKind) (w : World) (e : TypeId) : OwnK k (w.alloc (Obj.cells #[] e)) w.heap.size e (some ⟨w.heap.size, 0, none⟩) 0 0 [] :=
  World.ownsRow_made w #[] 0 (Nat.le_refl _) (Nat.zero_le _) rfl
/-- a row, or a literal of it, just made, is read -/
theorem uk_lit_at {k : IntKind} {w : World} {H : Nat} {e : TypeId} {cs : Array Value} {L : List Nat} {n : Nat} (hH : w.heap.size = H) (h : cs.toList = cellsK k L) (hn : L.length = n) (hm : n ≤ maxLen) : Uk k (w.alloc (.cells cs e)) (some ⟨H, 0, none⟩) n n L := by
  subst hH
  exact (ownK_lit (B := 0) e cs L n h hn hm (Nat.zero_le _)).uk
/-- L[i:] of a row -/
theorem uk_drop {k : IntKind} {w : World} {b off n c : Nat} {l : List Nat} (h : Uk k w (some ⟨b, off, none⟩) n c l) {i : Nat} (hi : i ≤ n) :
    Uk k w (if c = i then some ⟨b, off, none⟩ else some ⟨b, off + i, none⟩) (n - i) (c - i) (l.drop i) := by
  obtain ⟨h1, h2, h3, h4⟩ := h
  refine ⟨by rw [List.length_drop, h1], by omega, by omega, fun hn => ?_⟩
  rw [if_neg (by omega)]
  obtain ⟨b', off', e, hb, hc⟩ := h4 (by omega)
  injection e with e
  injection e with e1 e2
  subst e1; subst e2
  refine ⟨b, off + i, rfl, hb, fun j hj => ?_⟩
  rw [List.getElem_drop, Nat.add_assoc]
  exact hc (i + j) (by rw [List.length_drop] at hj; omega)
/-- L[:m] of a row -/
theorem uk_take {k : IntKind} {w : World} {a : Option Addr} {n c : Nat} {l : List Nat} (h : Uk k w a n c l) {m : Nat} (hm : m ≤ n) : Uk k w a m c (l.take m) :=
  ⟨by have := h.1; simp; omega, by have := h.2.1; omega, h.2.2.1, fun h0 => by
    obtain ⟨b, off, e, hb, hc⟩ := h.2.2.2 (by omega)
    exact ⟨b, off, e, hb, fun i hi => by rw [List.getElem_take]; exact hc i (by simp at hi; omega)⟩⟩
theorem uk_drewN {k : IntKind} {w : World} {a : Option Addr} {n c : Nat} {L : List Nat} (h : Uk k w a n c L) (q : Nat) : Uk k (w.drewN q) a n c L := h
end Go.Proofs.YtkmpmphabohkkaaDoor
