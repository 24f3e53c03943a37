/-
  Contract of the library's slices.Clone (bytes).
-/
import Derived.Test.YtfflfahhfhnkdaaInfoU8
namespace Go.Proofs.Ytfflfahhfhnkdaa
open Go.RowKit

set_option maxHeartbeats 400000 in
/-- slices.Clone[[]byte,byte]: a slice of the call's own -/
theorem sclone_any {w : World} {a : Option Addr} {n c : Nat} {l : List UInt8} (h : Bs w a n c l) (hn : n ≤ 1000000) :
    Calls Try.prog 31 #[.slice a n c] w fun e w' => ∃ a' c', e = .returned (.slice a' n c') ∧ Own w' w.heap.size 5 a' n c' l ∧ Below w.heap.size w w' := by
  obtain ⟨i0, hi, hz0, hz1, hz2⟩ := info_parts info_u8
  obtain ⟨hl, hnc, hcm, hx⟩ := h
  have q22 : ∀ (w : World) (a : Option Addr) (n c n' c' : Nat), (binOp .eql 22 (.slice a n c) (.slice none n' c')).run Try.prog w = .ok (.bool a.isNone) w := fun w a n c n' c' => Lib.run_eql_slice_nil w _ _ a n c n' c' Try.underlying22
  cases a with
  | none =>
    have hn0 : n = 0 := by
      rcases Nat.eq_zero_or_pos n with h | h
      · exact h
      · obtain ⟨b, off, e, _⟩ := hx h
        cases e
    clear hx
    subst hn0
    have hl0 : l = [] := List.eq_nil_of_length_eq_zero hl
    subst hl0
    go_enter Try.func31, Try.ntmps31
    go_wp2
    go_ret
    exact ⟨none, 0, rfl, World.ownsRow_nil _ _ _ _, Below.refl _ _⟩
  | some x =>
    have HL := Lib.hid hl
    have HX := Lib.hid hx
    clear hl hx
    go_enter Try.func31, Try.ntmps31
    go_wp2_with (at_builtin; refine wpList_append_own _ rfl _ _ 22 rfl w.heap.size 5 i0 (.int .u8 0) 1 1 Try.underlying22 hi hz0 hz1 hz2 rfl (by decide) _ _ _ rfl (World.ownsRow_made w #[] 0 (Nat.le_refl _) (Nat.zero_le _) rfl) x n c (cellsOf l) rfl ?qc1 ?qc2 (cellsOf_one l) ?qc4 ?qc5 ?qc6 ?_)
    case qc1 => rw [cellsOf_len, HL.out]; simp
    case qc2 =>
      intro j u hj
      obtain ⟨hj', rfl⟩ := cellsOf_get hj
      obtain ⟨b, off, e, hb, hc⟩ := HX.out (by have := HL.out; omega)
      injection e with e
      subst e
      have hp : (⟨b, off, none⟩ : Addr).add j = ⟨b, off + j, none⟩ := by unfold Addr.add; split <;> simp_all
      rw [hp, World.cell?_alloc_lt w _ ⟨b, off + j, none⟩ hb]
      exact hc j hj'
    case qc4 => unfold maxLen; omega
    case qc5 => omega
    case qc6 => simp
    intro v' w1 hown hgrow hnil
    go_wp2
    go_ret
    obtain ⟨a', c', rfl, ho⟩ := Own.form (l := l) (n := n) (by simpa using hown)
    exact ⟨a', c', rfl, ho, ((Below.refl _ w).alloc (Nat.le_refl _) _).grown hgrow (by simp) (by intro k hk; simp [Value.ownBlock] at hk; omega)⟩
end Go.Proofs.Ytfflfahhfhnkdaa
