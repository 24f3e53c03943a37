/-
  Contracts of the generic comparison of the library, at bytes and at ints, over this seat's numbers.
-/
import Derived.Test.YtammegdfjgphkaaDoorChecked
import Derived.WalkKit
import Derived.ProofKit
import Derived.Below
import Derived.OwnWalk
import Derived.Outline
import Derived.Deep.QuietTactic
import Derived.Lib.Hide
import Derived.BigQuiet
import Derived.Test.YtammegdfjgphkaaDoorWords
import Derived.Test.YtammegdfjgphkaaDoorMath
import Derived.LoopTactic
import Derived.Deep.DeepMust
import Derived.WalkLawsBesides
namespace Go.Proofs.YtammegdfjgphkaaDoor
open Go.RowKit

theorem nan_b (x : Int) (w : World) : Calls Tryd.prog 59 #[.int .u8 x] w fun e w' => e = .returned (.bool false) ∧ w = w' := by
  go_enter Tryd.func59, Tryd.ntmps59
  go_wp2
  go_ret
  exact ⟨rfl, rfl⟩
theorem nan_i (x : Int) (w : World) : Calls Tryd.prog 53 #[.int .i64 x] w fun e w' => e = .returned (.bool false) ∧ w = w' := by
  go_enter Tryd.func53, Tryd.ntmps53
  go_wp2
  go_ret
  exact ⟨rfl, rfl⟩

theorem cmp_b (x y : Int) (w : World) : Calls Tryd.prog 55 #[.int .u8 x, .int .u8 y] w fun e w' => e = .returned (.int .i64 (sgn x y)) ∧ w = w' := by
  go_enter Tryd.func55, Tryd.ntmps55
  go_wp2_with (go_at_call 59; refine (nan_b _ _).mono ?_; rintro e w' ⟨rfl, rfl⟩)
  all_goals
    go_ret
    refine ⟨congrArg (fun z => Ending.returned (.int .i64 z)) ?_, rfl⟩
    unfold sgn
    (repeat split) <;> omega
theorem cmp_i (x y : Int) (w : World) : Calls Tryd.prog 40 #[.int .i64 x, .int .i64 y] w fun e w' => e = .returned (.int .i64 (sgn x y)) ∧ w = w' := by
  go_enter Tryd.func40, Tryd.ntmps40
  go_wp2_with (go_at_call 53; refine (nan_i _ _).mono ?_; rintro e w' ⟨rfl, rfl⟩)
  all_goals
    go_ret
    refine ⟨congrArg (fun z => Ending.returned (.int .i64 z)) ?_, rfl⟩
    unfold sgn
    (repeat split) <;> omega

/-- the closure of Compare: the comparison at one index -/
theorem cmp_at {w : World} {a b : Option Addr} {n c m d : Nat} {xs ys : List UInt8} {i g h : Nat} {z : Int} (hz : Hid (sgn (xs.getD i 0).toNat (ys.getD i 0).toNat = z)) (hx : Bs w a n c xs) (hy : Bs w b m d ys) (hn : i < n) (hm : i < m)
    (hg : w.cell? ⟨g, 0, none⟩ = some (.slice a n c)) (hh : w.cell? ⟨h, 0, none⟩ = some (.slice b m d)) :
    Calls Tryd.prog 54 #[.int .i64 i, .pointer (some ⟨g, 0, none⟩), .pointer (some ⟨h, 0, none⟩)] w fun e w' =>
      e = .returned (.int .i64 z) ∧ ∃ k, w' = w.drewN k := by
  obtain ⟨b1, o1, hl1, rfl, _, hc1⟩ := hx.at_ hn
  obtain ⟨b2, o2, hl2, rfl, _, hc2⟩ := hy.at_ hm
  have e1 : xs.getD i 0 = xs[i] := by simp [hl1]
  have e2 : ys.getD i 0 = ys[i] := by simp [hl2]
  obtain rfl := hz.out
  clear hz
  rw [e1, e2]
  generalize xs[i] = x at *
  generalize ys[i] = y at *
  have h0 : (0 : Int) ≤ i := by omega
  have hn' : (i : Int) < n := by omega
  have hm' : (i : Int) < m := by omega
  clear e1 e2 hx hy hl1 hl2
  go_enter Tryd.func54, Tryd.ntmps54
  go_wp2
  go_quiet ((go_at_call 55; exact quiet_left (cmp_b _ _ _)))
  go_wp2
  go_ret
  exact ⟨rfl, _, rfl⟩

set_option maxHeartbeats 400000 in
theorem compare_any {w : World} {a b : Option Addr} {n c m d : Nat} {xs ys : List UInt8} (hx : Bs w a n c xs) (hy : Bs w b m d ys) :
    Calls Tryd.prog 41 #[.slice a n c, .slice b m d] w fun e w' => e = .returned (.int .i64 (lex xs ys)) ∧ Below w.heap.size w w' := by
  have hn : n ≤ 9223372036854775807 := by have := hx.2.1; have := hx.2.2.1; unfold maxLen at this; omega
  have hm : m ≤ 9223372036854775807 := by have := hy.2.1; have := hy.2.2.1; unfold maxLen at this; omega
  have hx2 : Bs ((w.alloc (Obj.cells #[Value.slice a n c] 22)).alloc (Obj.cells #[Value.slice b m d] 22)) a n c xs := (hx.alloc _).alloc _
  have hy2 : Bs ((w.alloc (Obj.cells #[Value.slice a n c] 22)).alloc (Obj.cells #[Value.slice b m d] 22)) b m d ys := (hy.alloc _).alloc _
  have hb0 : Below w.heap.size w ((w.alloc (Obj.cells #[Value.slice a n c] 22)).alloc (Obj.cells #[Value.slice b m d] 22)) :=
    ((Below.refl _ _).alloc (Nat.le_refl _) _).alloc (by simp) _
  have hg : Hid (∀ j, (((w.alloc (Obj.cells #[Value.slice a n c] 22)).alloc (Obj.cells #[Value.slice b m d] 22)).drewN j).cell? ⟨w.heap.size, 0, none⟩ = some (.slice a n c)) := fun j => by go_simp
  have hh : Hid (∀ j, (((w.alloc (Obj.cells #[Value.slice a n c] 22)).alloc (Obj.cells #[Value.slice b m d] 22)).drewN j).cell? ⟨w.heap.size + 1, 0, none⟩ = some (.slice b m d)) := fun j => by go_simp
  go_enter Tryd.func41, Tryd.ntmps41
  go_wp2
  all_goals
    go_loopw [14] (fun i wr => ∃ k j : Nat, k ≤ n ∧ k ≤ m ∧ i = .int .i64 k ∧ xs.take k = ys.take k ∧ wr = ((w.alloc (Obj.cells #[Value.slice a n c] 22)).alloc (Obj.cells #[Value.slice b m d] 22)).drewN j) (fun i _ => n + m - (intOf i).toNat)
    case atStart => exact ⟨0, 0, Nat.zero_le _, Nat.zero_le _, rfl, rfl, rfl⟩
    case round =>
      obtain ⟨k, j, hk1, hk2, rfl, ht, rfl⟩ := hrel
      have HT := Lib.hid ht
      clear ht
      by_cases hlt : k < n ∧ k < m
      · obtain ⟨h1, h2⟩ := hlt
        obtain ⟨z, hz⟩ : ∃ z, Hid (sgn (xs.getD k 0).toNat (ys.getD k 0).toNat = z) := ⟨_, rfl⟩
        by_cases hs : z = 0
        · have hs' : (z != 0) = false := by simp [hs]
          have HS := Lib.hid hs
          clear hs
          go_wp2_with (go_at_call 54; go_must (refine (cmp_at hz (hx2.drewN _) (hy2.drewN _) h1 h2 (hg.out _) (hh.out _)).mono ?_); rintro e w' ⟨rfl, q, rfl⟩)
          go_roundw
          case rel => exact ⟨k + 1, _, by omega, by omega, by go_num, take_step hz.out HS.out hx.len hy.len h1 h2 HT.out, rfl⟩
          case measure => simp [intOf]; omega
        · have hs' : (z != 0) = true := by simp [hs]
          clear hs
          go_wp2_with (go_at_call 54; go_must (refine (cmp_at hz (hx2.drewN _) (hy2.drewN _) h1 h2 (hg.out _) (hh.out _)).mono ?_); rintro e w' ⟨rfl, q, rfl⟩)
          go_wp2
          go_ret
          exact ⟨ret_int (lex_found hz.out hs' hx.len hy.len h1 h2 HT.out).symm, below_drewN hb0 _⟩
      · go_wp2_with (go_at_call 40; refine (cmp_i _ _ _).mono ?_; rintro e w' ⟨rfl, rfl⟩)
        all_goals
          go_ret
          exact ⟨ret_int (lex_done hx.len hy.len hk1 hk2 hlt HT.out).symm, below_drewN hb0 _⟩

end Go.Proofs.YtammegdfjgphkaaDoor
