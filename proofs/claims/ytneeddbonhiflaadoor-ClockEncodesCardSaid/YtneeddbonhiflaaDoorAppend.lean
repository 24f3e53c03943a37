/-
  append of bytes onto a slice of the call's own: the source may be nil, empty or not.
-/
import Derived.Test.YtneeddbonhiflaaDoorWords
import Derived.Deep.RegionLaw
import Derived.Tactics
namespace Go.Proofs.YtneeddbonhiflaaDoor
open Go.RowKit

section
variable {P : Program}

theorem run_app_nil (w : World) (base : Nat) (t ty e : TypeId) (i : TypeInfo) (ht : P.underlying t = some (.slice e)) (hi : P.info? e = some i)
    (a : Option Addr) (n c cc : Nat) (l : List UInt8) (hown : Own w base e a n c l) : (Builtin.append_ #[t, t] ty #[.slice a n c, .slice none 0 cc]).run P w = .ok (.slice a n c) w := by
  rcases hown.2 with ⟨hv, rfl⟩ | ⟨g, cap, cur, hv, _, _, hnc, _⟩
  · injection hv with h1 h2 h3
    subst h1; subst h3
    simp [Builtin.append_, run_underlying ht, sizeOf, typeInfo, hi, Builtin.lenOf, Builtin.firstCells]
  · injection hv with h1 h2 h3
    subst h1; subst h3
    simp [Builtin.append_, run_underlying ht, sizeOf, typeInfo, hi, Builtin.lenOf, Builtin.firstCells, hnc, storeCells]

theorem run_app (w : World) (base : Nat) (t ty e : TypeId) (i : TypeInfo) (ht : P.underlying t = some (.slice e)) (hi : P.info? e = some i) (hz : i.zero = some (.int .u8 0)) (hsize : i.size = 1) (hby : i.bytes = 1)
    (a : Option Addr) (n c : Nat) (l : List UInt8) (hown : Own w base e a n c l) (A : Option Addr) (m cc : Nat) (r : List UInt8) (hr : Bs w A m cc r) (hlim : n + m ≤ 16777216) (hbase : base ≤ w.heap.size) :
    ∃ a' c' w', (Builtin.append_ #[t, t] ty #[.slice a n c, .slice A m cc]).run P w = .ok (.slice a' (n + m) c') w' ∧ Own w' base e a' (n + m) c' (l ++ r) ∧ w.grownBy w' (Value.ownBlock (.slice a n c)) := by
  obtain ⟨hl, hmc, hcm, hx⟩ := hr
  cases A with
  | none =>
    have hm0 : m = 0 := by
      rcases Nat.eq_zero_or_pos m with h | h
      · exact h
      · obtain ⟨b, off, e, _⟩ := hx h
        cases e
    subst hm0
    have hr0 : r = [] := List.eq_nil_of_length_eq_zero hl
    subst hr0
    exact ⟨a, c, w, run_app_nil w base t ty e i ht hi a n c cc l hown, by simpa using hown, only_refl w _⟩
  | some ad =>
    have hcells : ∀ j u, (cellsOf r)[j]? = some u → w.cell? (ad.add j) = some u := by
      intro j u hj
      obtain ⟨hj', rfl⟩ := cellsOf_get hj
      obtain ⟨b, off, e, hb, hc⟩ := hx (by omega)
      injection e with e
      subst e
      have hp : (⟨b, off, none⟩ : Addr).add j = ⟨b, off + j, none⟩ := by unfold Addr.add; split <;> simp_all
      rw [hp]
      exact hc j hj'
    obtain ⟨v', w', h1, h2, h3, _⟩ := run_append_own (P := P) w base t ty e i (.int .u8 0) 1 1 ht hi hz hsize hby rfl (by decide) (.slice a n c) n (cellsOf l) hown ad m cc (cellsOf r) (by rw [cellsOf_len]; omega) hcells (cellsOf_one r) (by unfold maxLen; omega) (by omega) hbase
    rw [← cellsOf_append] at h2
    obtain ⟨a', c', rfl, ho⟩ := Own.form h2
    exact ⟨a', c', w', h1, ho, h3⟩

theorem wp_app (w : World) {o : Oper} {act : Act} {K : Act → World → Prop} {Q : Exit → Act → World → Prop} (s x : Operand) (t : TypeId)
    (ho : o.op = .call { callee := .builtin .append, args := #[s, x], argTypes := #[t, t] })
    (base : Nat) (e : TypeId) (i : TypeInfo) (ht : P.underlying t = some (.slice e)) (hi : P.info? e = some i) (hz : i.zero = some (.int .u8 0)) (hsize : i.size = 1) (hby : i.bytes = 1)
    (a : Option Addr) (n c : Nat) (l : List UInt8) (hs : act.eval s = .slice a n c) (hown : Own w base e a n c l) (A : Option Addr) (m cc : Nat) (r : List UInt8) (hx : act.eval x = .slice A m cc) (hr : Bs w A m cc r) (hlim : n + m ≤ 16777216) (hbase : base ≤ w.heap.size)
    (h : ∀ a' c' w', Own w' base e a' (n + m) c' (l ++ r) → w.grownBy w' (Value.ownBlock (.slice a n c)) → K (act.put o.dst (.slice a' (n + m) c')) w') : o.wp P act w K Q := by
  obtain ⟨a', c', w', h1, h2, h3⟩ := run_app (P := P) w base t o.type e i ht hi hz hsize hby a n c l hown A m cc r hr hlim hbase
  unfold Oper.wp execOp
  simp only [ho, resolve, invoke, builtin, Sem.run_bind, Sem.run_pure, Result.andThen_ok, List.map_toArray, List.map_cons, List.map_nil, hs, hx, h1]
  exact h a' c' w' h2 h3

theorem wpList_app (w : World) {ops : Array Oper} {rest : List Oper} {o : Oper} {act : Act} {Q : Exit → Act → World → Prop} (hgd : o.guard = none) (s x : Operand) (t : TypeId)
    (ho : o.op = .call { callee := .builtin .append, args := #[s, x], argTypes := #[t, t] })
    (base : Nat) (e : TypeId) (i : TypeInfo) (ht : P.underlying t = some (.slice e)) (hi : P.info? e = some i) (hz : i.zero = some (.int .u8 0)) (hsize : i.size = 1) (hby : i.bytes = 1)
    (a : Option Addr) (n c : Nat) (l : List UInt8) (hs : act.eval s = .slice a n c) (hown : Own w base e a n c l) (A : Option Addr) (m cc : Nat) (r : List UInt8) (hx : act.eval x = .slice A m cc) (hr : Bs w A m cc r) (hlim : n + m ≤ 16777216) (hbase : base ≤ w.heap.size)
    (h : ∀ a' c' w', Own w' base e a' (n + m) c' (l ++ r) → w.grownBy w' (Value.ownBlock (.slice a n c)) → wpList P ops Q rest (act.put o.dst (.slice a' (n + m) c')) w') : wpList P ops Q (o :: rest) act w :=
  wpList_plain hgd fun _ hK => wp_app w s x t ho base e i ht hi hz hsize hby a n c l hs hown A m cc r hx hr hlim hbase fun a' c' w' h2 h3 => hK _ _ (h a' c' w' h2 h3)

/-- behind a guard that holds -/
theorem wpList_app_g (w : World) {ops : Array Oper} {rest : List Oper} {o : Oper} {act : Act} {Q : Exit → Act → World → Prop} (hgd : Region.wanted o (yielded ops act.tmps) = true) (s x : Operand) (t : TypeId)
    (ho : o.op = .call { callee := .builtin .append, args := #[s, x], argTypes := #[t, t] })
    (base : Nat) (e : TypeId) (i : TypeInfo) (ht : P.underlying t = some (.slice e)) (hi : P.info? e = some i) (hz : i.zero = some (.int .u8 0)) (hsize : i.size = 1) (hby : i.bytes = 1)
    (a : Option Addr) (n c : Nat) (l : List UInt8) (hs : act.eval s = .slice a n c) (hown : Own w base e a n c l) (A : Option Addr) (m cc : Nat) (r : List UInt8) (hx : act.eval x = .slice A m cc) (hr : Bs w A m cc r) (hlim : n + m ≤ 16777216) (hbase : base ≤ w.heap.size)
    (h : ∀ a' c' w', Own w' base e a' (n + m) c' (l ++ r) → w.grownBy w' (Value.ownBlock (.slice a n c)) → wpList P ops Q rest (act.put o.dst (.slice a' (n + m) c')) w') : wpList P ops Q (o :: rest) act w :=
  wpList_step fun K hK => by
    rw [if_pos hgd]
    exact wp_app w s x t ho base e i ht hi hz hsize hby a n c l hs hown A m cc r hx hr hlim hbase fun a' c' w' h2 h3 => hK _ _ (h a' c' w' h2 h3)

theorem step_app (w : World) {ops : Array Oper} {o : Oper} {act : Act} {K : Act → World → Prop} {Q : Exit → Act → World → Prop} {E : Prop} (hgd : o.guard = none) (s x : Operand) (t : TypeId)
    (ho : o.op = .call { callee := .builtin .append, args := #[s, x], argTypes := #[t, t] })
    (base : Nat) (e : TypeId) (i : TypeInfo) (ht : P.underlying t = some (.slice e)) (hi : P.info? e = some i) (hz : i.zero = some (.int .u8 0)) (hsize : i.size = 1) (hby : i.bytes = 1)
    (a : Option Addr) (n c : Nat) (l : List UInt8) (hs : act.eval s = .slice a n c) (hown : Own w base e a n c l) (A : Option Addr) (m cc : Nat) (r : List UInt8) (hx : act.eval x = .slice A m cc) (hr : Bs w A m cc r) (hlim : n + m ≤ 16777216) (hbase : base ≤ w.heap.size)
    (h : ∀ a' c' w', Own w' base e a' (n + m) c' (l ++ r) → w.grownBy w' (Value.ownBlock (.slice a n c)) → K (act.put o.dst (.slice a' (n + m) c')) w') :
    if Region.wanted o (yielded ops act.tmps) = true then Oper.wp P o act w K Q else E := by
  have hw : Region.wanted o (yielded ops act.tmps) = true := by simp [Region.wanted, hgd]
  rw [if_pos hw]
  exact wp_app w s x t ho base e i ht hi hz hsize hby a n c l hs hown A m cc r hx hr hlim hbase h
end

/-- an empty slice, just made -/
theorem own_made (w : World) (e : TypeId) : Own (w.alloc (Obj.cells #[] e)) w.heap.size e (some ⟨w.heap.size, 0, none⟩) 0 0 [] :=
  World.ownsRow_made w #[] 0 (Nat.le_refl _) (Nat.zero_le _) rfl

theorem Own.pos {w : World} {B : Nat} {e : TypeId} {a : Option Addr} {n c : Nat} {l : List UInt8} (h : Own w B e a n c l) (hn : 0 < n) : ∃ g, a = some ⟨g, 0, none⟩ ∧ B ≤ g ∧ g < w.heap.size := by
  rcases h.2 with ⟨_, h0⟩ | ⟨g, cap, cur, hv, hb, hh, _⟩
  · omega
  · injection hv with h1
    subst h1
    exact ⟨g, rfl, hb, (h.base _ rfl).2⟩
theorem inc_byte (x : UInt8) : (((x.toNat : Int) + 1) % 256) = ((x + 1).toNat : Int) := by
  rw [UInt8.toNat_add]
  have := x.toNat_lt
  simp

/-- what an append turns: nothing that lies below the slice's own base -/
theorem app_below {w w' : World} {B base : Nat} {e : TypeId} {a : Option Addr} {n c : Nat} {l : List UInt8} (hown : Own w base e a n c l) (hg : w.grownBy w' (Value.ownBlock (.slice a n c))) (hB : B ≤ base) (hz : B ≤ w.heap.size) : Below B w w' :=
  (Below.refl B w).grown hg hz fun k hk => by
    cases a with
    | none => simp [Value.ownBlock] at hk
    | some x =>
      simp only [Value.ownBlock, Option.some.injEq] at hk
      have := (hown.base x rfl).1
      omega
/-- what lies below block B stays -/
theorem bs_belowB {w w' : World} {B : Nat} {a : Option Addr} {n c : Nat} {l : List UInt8} (h : Bs w a n c l) (hb : Below B w w') (ha : ∀ x, a = some x → x.block < B) : Bs w' a n c l :=
  ⟨h.1, h.2.1, h.2.2.1, fun hn => by
    obtain ⟨b, off, e, hlt, hc⟩ := h.2.2.2 hn
    exact ⟨b, off, e, Nat.lt_of_lt_of_le hlt hb.size, fun i hi => (hb.cell (p := ⟨b, off + i, none⟩) (show b < B from ha _ e)).trans (hc i hi)⟩⟩
end Go.Proofs.YtneeddbonhiflaaDoor
