/-
  Contract of the reference implementation's Compare.
-/
import Derived.Test.YtammegdfjgphkaaDoorChecked
import Derived.WalkKit
import Derived.ProofKit
import Derived.Below
import Derived.OwnWalk
import Derived.Outline
import Derived.Deep.QuietTactic
import Derived.Lib.Hide
import Derived.BigQuiet
import Derived.Test.YtammegdfjgphkaaDoorWords
import Derived.Test.YtammegdfjgphkaaDoorMath
import Derived.LoopTactic
import Derived.Deep.DeepMust
import Derived.WalkLawsBesides
namespace Go.Proofs.YtammegdfjgphkaaDoor
open Go.RowKit

set_option maxHeartbeats 400000 in
/-- Compare of the reference -/
theorem ref_compare_any {w : World} {a b : Option Addr} {n c m d : Nat} {xs ys : List UInt8} (hx : Bs w a n c xs) (hy : Bs w b m d ys) :
    Calls Tryd.prog 42 #[.slice a n c, .slice b m d] w fun e w' => e = .returned (.int .i64 (lex xs ys)) ∧ ∃ q, w' = w.drewN q := by
  have hn : n ≤ 9223372036854775807 := by have := hx.2.1; have := hx.2.2.1; unfold maxLen at this; omega
  have hm : m ≤ 9223372036854775807 := by have := hy.2.1; have := hy.2.2.1; unfold maxLen at this; omega
  go_enter Tryd.func42, Tryd.ntmps42
  go_wp2
  go_loopw [5] (fun i wr => ∃ k j : Nat, k ≤ n ∧ k ≤ m ∧ i = .int .i64 k ∧ xs.take k = ys.take k ∧ wr = w.drewN j) (fun i _ => n + m - (intOf i).toNat)
  case atStart => exact ⟨0, 0, Nat.zero_le _, Nat.zero_le _, rfl, rfl, rfl⟩
  case round =>
    obtain ⟨k, j, hk1, hk2, rfl, ht, rfl⟩ := hrel
    have HT := Lib.hid ht
    clear ht
    by_cases hlt : k < n ∧ k < m
    · obtain ⟨h1, h2⟩ := hlt
      obtain ⟨b1, o1, hl1, rfl, _, hc1⟩ := hx.at_ h1
      obtain ⟨b2, o2, hl2, rfl, _, hc2⟩ := hy.at_ h2
      have h0 : (0 : Int) ≤ k := by omega
      have hn' : (k : Int) < n := by omega
      have hm' : (k : Int) < m := by omega
      have e1 : xs.getD k 0 = xs[k] := by simp [hl1]
      have e2 : ys.getD k 0 = ys[k] := by simp [hl2]
      have HZ : Hid (sgn (xs.getD k 0).toNat (ys.getD k 0).toNat = sgn xs[k].toNat ys[k].toNat) := by rw [e1, e2]; rfl
      clear e1 e2
      generalize xs[k] = x at *
      generalize ys[k] = y at *
      clear hl1 hl2
      go_wp2
      go_quiet (fail)
      go_wp2
      · have hlt : x.toNat < y.toNat := by assumption
        go_ret
        exact ⟨ret_int (lex_lt HZ.out hlt hx.len hy.len h1 h2 HT.out).symm, by simp only [World.drewN_drewN]; exact ⟨_, rfl⟩⟩
      · have hge : ¬ x.toNat < y.toNat := by assumption
        go_quiet (fail)
        go_wp2
        · have hlt : y.toNat < x.toNat := by assumption
          go_ret
          exact ⟨ret_int (lex_gt HZ.out hlt hx.len hy.len h1 h2 HT.out).symm, by simp only [World.drewN_drewN]; exact ⟨_, rfl⟩⟩
        · have hge2 : ¬ y.toNat < x.toNat := by assumption
          go_roundw
          case rel => exact ⟨k + 1, _, by omega, by omega, by go_num, take_step HZ.out (sgn_eq hge hge2) hx.len hy.len h1 h2 HT.out, rfl⟩
          case measure => simp [intOf]; omega
    · go_wp2
      all_goals
        go_ret
        refine ⟨ret_int ?_, _, rfl⟩
        rw [lex_done hx.len hy.len hk1 hk2 hlt HT.out]
        unfold sgn
        (repeat split) <;> omega
end Go.Proofs.YtammegdfjgphkaaDoor
