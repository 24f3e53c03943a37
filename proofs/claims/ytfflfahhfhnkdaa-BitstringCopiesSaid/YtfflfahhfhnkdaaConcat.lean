/-
  Contracts of the library's slices.Grow (of a nil slice of bytes) and slices.Concat.
-/
import Derived.Test.YtfflfahhfhnkdaaInfoU8
import Derived.Test.YtfflfahhfhnkdaaAppend
import Derived.Lib.AppendZeros
namespace Go.Proofs.Ytfflfahhfhnkdaa
open Go.RowKit

theorem grow_nil {n : Nat} (hn : n ≤ 16777216) (w : World) :
    Calls Try.prog 36 #[.slice none 0 0, .int .i64 n] w fun e w' => ∃ a c, e = .returned (.slice a 0 c) ∧ Own w' w.heap.size 5 a 0 c [] ∧ Below w.heap.size w w' := by
  obtain ⟨i0, hi, hz0, hz1, hz2⟩ := info_parts info_u8
  have hn0 : (0 : Int) ≤ n := by omega
  have hn2 : (n : Int) ≤ 16777216 := by omega
  rcases Nat.eq_zero_or_pos n with h | h
  · subst h
    go_enter Try.func36, Try.ntmps36
    go_wp2
    go_ret
    exact ⟨none, 0, rfl, World.ownsRow_nil _ _ _ _, Below.refl _ _⟩
  · have h' : (0 : Int) < n := by omega
    have hr := fun ty => Lib.run_append_nil_zeros (P := Try.prog) w 22 3 ty 5 i0 (.int .u8 0) .i64 .i64 Try.underlying22 Try.underlying3 hi hz0 n h (by rw [hz1]; omega) (by omega) (by rw [hz2]; omega)
    have hG := grownCap_ge w n 0 5
    have hG2 := grownCap_le_maxLen w n 0 5 (by unfold maxLen; omega)
    generalize grownCap w n 0 5 = G at *
    have HR := Lib.hid hr
    clear hr
    have hGm : G ≤ 9223372036854775807 := by unfold maxLen at hG2; omega
    have HO := Lib.hid (World.ownsRow_made (e := 5) (size := 1) (base := w.heap.size) w.drew (Builtin.zeroCells (Value.int .u8 0).cells n ++ Builtin.zeroCells (Value.int .u8 0).cells (G - n)) G (Nat.le_refl _) hG2 (by simp [Builtin.zeroCells, Value.cells]; omega))
    go_enter Try.func36, Try.ntmps36
    go_wp2_with (at_builtin; go_must (refine Lib.wpList_append_run _ rfl _ _ _ _ rfl _ _ rfl rfl _ _ (HR.out _) ?_))
    go_wp2
    go_ret
    exact ⟨_, _, rfl, HO.out, bal (below_drewN (Below.refl _ _) 1) _⟩

/-- a slice value of bytes with what it reads as -/
structure Sl where
  a : Option Addr
  n : Nat
  c : Nat
  l : List UInt8
def tot (ss : List Sl) : Nat := (ss.map (·.n)).sum
def cat (ss : List Sl) : List UInt8 := (ss.map (·.l)).flatten
theorem tot_take {ss : List Sl} {k : Nat} (h : k < ss.length) : tot (ss.take (k + 1)) = tot (ss.take k) + ss[k].n := by
  unfold tot
  rw [List.take_succ_eq_append_getElem h, List.map_append, List.sum_append]
  simp
theorem cat_take {ss : List Sl} {k : Nat} (h : k < ss.length) : cat (ss.take (k + 1)) = cat (ss.take k) ++ ss[k].l := by
  unfold cat
  rw [List.take_succ_eq_append_getElem h, List.map_append, List.flatten_append]
  simp
theorem tot_take_le (ss : List Sl) (k : Nat) : tot (ss.take k) ≤ tot ss := by
  have h : tot ss = tot (ss.take k) + tot (ss.drop k) := by
    unfold tot
    conv => lhs; rw [← List.take_append_drop k ss]
    rw [List.map_append, List.sum_append]
  omega
/-- a slice of slices of bytes: at block b, below the end of the heap -/
def Rows (w : World) (b : Nat) (ss : List Sl) : Prop :=
  ∀ (i : Nat) (h : i < ss.length), w.cell? ⟨b, i, none⟩ = some (.slice ss[i].a ss[i].n ss[i].c) ∧ Bs w ss[i].a ss[i].n ss[i].c ss[i].l

set_option maxHeartbeats 1000000 in
theorem concat_any {w : World} {b : Nat} {ss : List Sl} (hr : Rows w b ss) (hb : b < w.heap.size) (ht : tot ss ≤ 16777216) (hl : ss.length ≤ 1000) :
    Calls Try.prog 29 #[.slice (some ⟨b, 0, none⟩) ss.length ss.length] w fun e w' => ∃ a c, e = .returned (.slice a (tot ss) c) ∧ Own w' w.heap.size 5 a (tot ss) c (cat ss) ∧ Below w.heap.size w w' := by
  obtain ⟨i0, hi, hz0, hz1, hz2⟩ := info_parts info_u8
  obtain ⟨L, hL⟩ : ∃ L, Hid (ss.length = L) := ⟨_, rfl⟩
  have HR := Lib.hid hr
  have hL1 : (L : Int) ≤ 1000 := by have := hL.out; omega
  rw [hL.out]
  clear hr hl
  go_enter Try.func29, Try.ntmps29
  go_wp2_with fail
  go_loop [3, 11] (fun s i => ∃ k : Nat, k ≤ L ∧ i = .int .i64 k ∧ s = .int .i64 (tot (ss.take k))) (fun _ i => L - (intOf i).toNat)
  case atStart => exact ⟨0, Nat.zero_le _, rfl, rfl⟩
  case round =>
    obtain ⟨k, hk, rfl, rfl⟩ := hrel
    obtain ⟨T, hT⟩ : ∃ T, Hid (tot (ss.take k) = T) := ⟨_, rfl⟩
    have hTb : (T : Int) ≤ 16777216 := by have := tot_take_le ss k; have := hT.out; omega
    rw [hT.out]
    by_cases hlt : k < L
    · have hks : k < ss.length := by have := hL.out; omega
      have hc := (HR.out k hks).1
      have hT2 := Lib.hid (tot_take hks)
      have hn : (ss[k].n : Int) ≤ 16777216 := by have := tot_take_le ss (k + 1); have := hT2.out; omega
      have hn2 : (T : Int) + ss[k].n ≤ 16777216 := by have := tot_take_le ss (k + 1); have := hT2.out; have := hT.out; omega
      rw [hT.out] at hT2
      generalize ss[k] = s at *
      have hkk : (k : Int) < L := by omega
      have hk0 : (0 : Int) ≤ k := by omega
      have hT0 : (0 : Int) ≤ T := by omega
      clear hks
      go_wp2
      go_round
      case rel => exact ⟨k + 1, by omega, by go_num, by rw [hT2.out]; rfl⟩
      case measure => simp [intOf]; omega
    · go_wp2_with fail
      have hkL : k = L := by omega
      have hTt : Hid (T = tot ss) := by
        have h1 := hT.out
        have h2 := hL.out
        rw [List.take_of_length_le (by omega)] at h1
        exact h1.symm
      clear hlt hk hkL
      refine (grow_nil (by omega) _).mono ?_
      rintro e w1 ⟨a1, c1, rfl, ho, hb1⟩
      have O1 := Lib.hid ho
      have B1 := Lib.hid hb1
      clear ho hb1
      go_wp2_with fail
      go_loopw [6, 27] (fun v i wr => ∃ k : Nat, ∃ a c, k ≤ L ∧ i = .int .i64 k ∧ v = .slice a (tot (ss.take k)) c ∧ Own wr w.heap.size 5 a (tot (ss.take k)) c (cat (ss.take k)) ∧ Below w.heap.size w wr) (fun _ i _ => L - (intOf i).toNat)
      case atStart => exact ⟨0, a1, c1, Nat.zero_le _, rfl, rfl, O1.out, B1.out⟩
      case round =>
        clear O1 B1 hT hTb hTt
        obtain ⟨k2, a2, c2, hk, rfl, rfl, ho, hb2⟩ := hrel
        have O2 := Lib.hid ho
        have B2 := Lib.hid hb2
        obtain ⟨M, hM⟩ : ∃ M, Hid (tot (ss.take k2) = M) := ⟨_, rfl⟩
        have hMb : (M : Int) ≤ 16777216 := by have := tot_take_le ss k2; have := hM.out; omega
        rw [hM.out] at O2 ⊢
        have hsz := hb2.size
        clear ho hb2
        by_cases hlt : k2 < L
        · have hks : k2 < ss.length := by have := hL.out; omega
          have hc := (B2.out.cell (p := ⟨b, k2, none⟩) hb).trans (HR.out k2 hks).1
          have hS := Lib.hid ((HR.out k2 hks).2.below B2.out)
          have hT2 := Lib.hid (tot_take hks)
          have hC2 := Lib.hid (cat_take hks)
          have hn2 : M + ss[k2].n ≤ 16777216 := by have := tot_take_le ss (k2 + 1); have := hT2.out; have := hM.out; omega
          rw [hM.out] at hT2
          generalize ss[k2] = s at *
          have hkk : (k2 : Int) < L := by omega
          have hk0 : (0 : Int) ≤ k2 := by omega
          clear hks
          go_wp2_with (at_builtin; go_must (refine wpList_app _ rfl _ _ 22 rfl w.heap.size 5 i0 Try.underlying22 hi hz0 hz1 hz2 a2 M c2 _ rfl O2.out s.a s.n s.c s.l rfl hS.out hn2 hsz ?_))
          intro a3 c3 w3 ho3 hg3
          have O3 := Lib.hid ho3
          have B3 := Lib.hid (B2.out.trans (app_below O2.out hg3 (Nat.le_refl _) hsz))
          clear ho3 hg3
          go_wp2
          go_roundw
          case rel => exact ⟨k2 + 1, a3, c3, by omega, by go_num, by rw [hT2.out], by rw [hT2.out, hC2.out]; exact O3.out, B3.out⟩
          case measure => simp [intOf]; omega
        · have hMt : Hid (M = tot ss) := by
            have h1 := hM.out
            have h2 := hL.out
            rw [List.take_of_length_le (by omega)] at h1
            exact h1.symm
          have hCt : Hid (cat (ss.take k2) = cat ss) := by
            have h2 := hL.out
            rw [List.take_of_length_le (by omega)]
            rfl
          rw [hCt.out] at O2
          go_wp2
          go_ret
          exact ⟨a2, c2, by rw [← hMt.out]; rfl, by rw [← hMt.out]; exact O2.out, B2.out⟩
end Go.Proofs.Ytfflfahhfhnkdaa
