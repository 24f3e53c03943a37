/-
  Contracts of the cursor's small methods: orEmpty, Pos, Left, short; bytes.Clone.
-/
import Derived.Test.YtgccjdhkpgmnoaaChecked
import Derived.WalkKit
import Derived.ProofKit
import Derived.Below
import Derived.OwnWalk
import Derived.Outline
import Derived.Deep.QuietTactic
import Derived.BigQuiet
import Derived.Lib.Hide
import Derived.LoopTactic
import Derived.WalkLawsBesides
import Derived.WalkSpells
import Derived.Deep.DeepMust
import Derived.Test.YtgccjdhkpgmnoaaWords
namespace Go.Proofs.Ytgccjdhkpgmnoaa
open Go.RowKit

/-- a cursor of type t in block g: the bytes l, read up to pos -/
def Cur (w : World) (t : TypeId) (g : Nat) (a : Option Addr) (l : List UInt8) (pos : Nat) : Prop :=
  ∃ c, Blk w g t #[.slice a l.length c, .int .i64 pos] ∧ Bs w a l.length c l ∧ (∀ x, a = some x → x.block ≠ g) ∧ pos ≤ l.length ∧ l.length ≤ 1000000
theorem Cur.below {w w' : World} {t : TypeId} {g : Nat} {a : Option Addr} {l : List UInt8} {pos : Nat} (h : Cur w t g a l pos) (hb : Below w.heap.size w w') : Cur w' t g a l pos := by
  obtain ⟨c, h1, h2, h3, h4⟩ := h
  exact ⟨c, h1.below hb h1.lt, h2.below hb, h3, h4⟩
theorem Cur.drewN {w : World} {t : TypeId} {g : Nat} {a : Option Addr} {l : List UInt8} {pos : Nat} (h : Cur w t g a l pos) (k : Nat) : Cur (w.drewN k) t g a l pos := h
theorem Cur.lt {w : World} {t : TypeId} {g : Nat} {a : Option Addr} {l : List UInt8} {pos : Nat} (h : Cur w t g a l pos) : g < w.heap.size := by
  obtain ⟨c, h1, _⟩ := h
  exact h1.lt
theorem Cur.only {w w' : World} {t : TypeId} {g k : Nat} {a : Option Addr} {l : List UInt8} {pos : Nat} (h : Cur w t g a l pos) (hk : w.grownBy w' (some k)) (h1 : g ≠ k) (h2 : ∀ x, a = some x → x.block ≠ k) : Cur w' t g a l pos := by
  obtain ⟨c, h3, h4, h5⟩ := h
  exact ⟨c, h3.only hk h1, h4.only hk h2, h5⟩

theorem info_u8 : (Try.prog.info? 5).map (fun i => (i.zero, i.size, i.bytes)) = some (some (.int .u8 0), 1, 1) := by kernel_rfl

theorem orEmpty_any (g : Nat) (w : World) : Calls Try.prog 58 #[.pointer (some ⟨g, 0, none⟩)] w fun e w' => e = .returned (.pointer (some ⟨g, 0, none⟩)) ∧ w = w' := by
  go_enter Try.func58, Try.ntmps58
  go_wp2
  go_ret
  exact ⟨rfl, rfl⟩
theorem pos_any {w : World} {g : Nat} {a : Option Addr} {l : List UInt8} {pos : Nat} (h : Cur w 90 g a l pos) :
    Calls Try.prog 54 #[.pointer (some ⟨g, 0, none⟩)] w fun e w' => e = .returned (.int .i64 pos) ∧ w = w' := by
  obtain ⟨c, hb, hs, hne, hp, hz⟩ := h
  have h0 := hb.cell 0
  have h1 := hb.cell 1
  simp only [List.getElem?_toArray, List.getElem?_cons_zero, List.getElem?_cons_succ] at h0 h1
  go_enter Try.func54, Try.ntmps54
  go_wp2_with (go_at_call 58; refine (orEmpty_any _ _).mono ?_; rintro e w' ⟨rfl, rfl⟩)
  go_ret
  exact ⟨rfl, rfl⟩
theorem left_any {w : World} {g : Nat} {a : Option Addr} {l : List UInt8} {pos : Nat} (h : Cur w 90 g a l pos) :
    Calls Try.prog 59 #[.pointer (some ⟨g, 0, none⟩)] w fun e w' => e = .returned (.int .i64 (l.length - pos : Nat)) ∧ ∃ k, w' = w.drewN k := by
  obtain ⟨c, hb, hs, hne, hp, hz⟩ := h
  have h0 := hb.cell 0
  have h1 := hb.cell 1
  simp only [List.getElem?_toArray, List.getElem?_cons_zero, List.getElem?_cons_succ] at h0 h1
  go_enter Try.func59, Try.ntmps59
  go_wp2_with (go_at_call 58; refine (orEmpty_any _ _).mono ?_; rintro e w' ⟨rfl, rfl⟩)
  go_quiet (fail)
  go_wp2
  go_ret
  exact ⟨ret_int (by omega), _, rfl⟩
theorem short_any {w : World} {g : Nat} {a : Option Addr} {l : List UInt8} {pos : Nat} (h : Cur w 90 g a l pos) :
    Calls Try.prog 60 #[.pointer (some ⟨g, 0, none⟩)] w fun e w' => e = .returned (.agg #[.int .i64 1, .int .i64 l.length]) ∧ Below w.heap.size w w' := by
  obtain ⟨c, hb, hs, hne, hp, hz⟩ := h
  have hlt := hb.lt
  have h0 := hb.cell 0
  have h1 := hb.cell 1
  simp only [List.getElem?_toArray, List.getElem?_cons_zero, List.getElem?_cons_succ] at h0 h1
  go_enter Try.func60, Try.ntmps60
  go_wp2
  exact bodyPost_ret (v := .agg #[.int .i64 1, .int .i64 l.length]) (by simp [results, Try.results60, go_sem]) rfl ⟨rfl, (Below.refl _ _).alloc (Nat.le_refl _) _⟩
theorem bs_cut {w : World} {a : Option Addr} {n c : Nat} {l : List UInt8} (h : Bs w a n c l) {i m : Nat} (hi : i + m ≤ n) :
    Bs w (if m = 0 then a else a.map (·.add i)) m m ((l.drop i).take m) := by
  obtain ⟨h1, h2, h3, h4⟩ := h
  refine ⟨by simp; omega, Nat.le_refl _, by omega, fun hm => ?_⟩
  obtain ⟨b, off, rfl, hb, hc⟩ := h4 (by omega)
  rw [if_neg (by omega)]
  refine ⟨b, off + i, ?_, hb, fun j hj => ?_⟩
  · have hp : (⟨b, off, none⟩ : Addr).add i = ⟨b, off + i, none⟩ := by unfold Addr.add; split <;> simp_all
    simp [hp]
  · have hj' : j < m := by simp at hj; omega
    have e1 : ((l.drop i).take m)[j] = l[i + j] := by simp
    rw [e1, Nat.add_assoc]
    exact hc (i + j) (by omega)

set_option maxHeartbeats 400000 in
/-- bytes.Clone: a slice of the call's own -/
theorem clone_any {w : World} {a : Option Addr} {n c : Nat} {l : List UInt8} (h : Bs w a n c l) (hn : n ≤ 1000000) :
    Calls Try.prog 39 #[.slice a n c] w fun e w' => ∃ a' c', e = .returned (.slice a' n c') ∧ Own w' w.heap.size 5 a' n c' l ∧ Below w.heap.size w w' := by
  obtain ⟨i0, hi, hz0, hz1, hz2⟩ := info_parts info_u8
  obtain ⟨hl, hnc, hcm, hx⟩ := h
  have q22 : ∀ (w : World) (a : Option Addr) (n c n' c' : Nat), (binOp .eql 22 (.slice a n c) (.slice none n' c')).run Try.prog w = .ok (.bool a.isNone) w := fun w a n c n' c' => Lib.run_eql_slice_nil w _ _ a n c n' c' Try.underlying22
  cases a with
  | none =>
    have hn0 : n = 0 := by
      rcases Nat.eq_zero_or_pos n with h | h
      · exact h
      · obtain ⟨b, off, e, _⟩ := hx h
        cases e
    clear hx
    subst hn0
    have hl0 : l = [] := List.eq_nil_of_length_eq_zero hl
    subst hl0
    go_enter Try.func39, Try.ntmps39
    go_wp2
    go_ret
    exact ⟨none, 0, rfl, World.ownsRow_nil _ _ _ _, Below.refl _ _⟩
  | some x =>
    have HL := Lib.hid hl
    have HX := Lib.hid hx
    clear hl hx
    go_enter Try.func39, Try.ntmps39
    go_wp2_with (at_builtin; refine wpList_append_own _ rfl _ _ 22 rfl w.heap.size 5 i0 (.int .u8 0) 1 1 Try.underlying22 hi hz0 hz1 hz2 rfl (by decide) _ _ _ rfl (World.ownsRow_made w #[] 0 (Nat.le_refl _) (Nat.zero_le _) rfl) x n c (cellsOf l) rfl ?qc1 ?qc2 (cellsOf_one l) ?qc4 ?qc5 ?qc6 ?_)
    case qc1 => rw [cellsOf_len, HL.out]; simp
    case qc2 =>
      intro j u hj
      obtain ⟨hj', rfl⟩ := cellsOf_get hj
      obtain ⟨b, off, e, hb, hc⟩ := HX.out (by have := HL.out; omega)
      injection e with e
      subst e
      have hp : (⟨b, off, none⟩ : Addr).add j = ⟨b, off + j, none⟩ := by unfold Addr.add; split <;> simp_all
      rw [hp, World.cell?_alloc_lt w _ ⟨b, off + j, none⟩ hb]
      exact hc j hj'
    case qc4 => unfold maxLen; omega
    case qc5 => omega
    case qc6 => simp
    intro v' w1 hown hgrow hnil
    go_wp2
    go_ret
    obtain ⟨a', c', rfl, ho⟩ := Own.form (l := l) (n := n) (by simpa using hown)
    exact ⟨a', c', rfl, ho, ((Below.refl _ w).alloc (Nat.le_refl _) _).grown hgrow (by simp) (by intro k hk; simp [Value.ownBlock] at hk; omega)⟩
end Go.Proofs.Ytgccjdhkpgmnoaa
