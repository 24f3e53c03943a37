/-
  Contracts: whether arcs are an object identifier (of the program: validArcs; of the reference: Right).
-/
import Derived.Test.YtepicefbpadbhaaDoorChecked
import Derived.WalkKit
import Derived.ProofKit
import Derived.Below
import Derived.OwnWalk
import Derived.Outline
import Derived.Deep.QuietTactic
import Derived.BigQuiet
import Derived.Lib.Hide
import Derived.LoopTactic
import Derived.WalkLawsBesides
import Derived.WalkSpells
import Derived.Deep.DeepMust
import Derived.Test.YtepicefbpadbhaaDoorRowApp
import Derived.Test.YtepicefbpadbhaaDoorOidMath
namespace Go.Proofs.YtepicefbpadbhaaDoor
open Go.RowKit

theorem info_u32 : (Tryd.prog.info? 45).map (fun i => (i.zero, i.size, i.bytes)) = some (some (.int .u32 0), 1, 4) := by kernel_rfl
theorem Uk.two {k : IntKind} {w : World} {a : Option Addr} {n c x y : Nat} {r : List Nat} (h : Uk k w a n c (x :: y :: r)) :
    ∃ b off, a = some ⟨b, off, none⟩ ∧ b < w.heap.size ∧ n = r.length + 2 ∧ w.cell? ⟨b, off, none⟩ = some (.int k x) ∧ w.cell? ⟨b, off + 1, none⟩ = some (.int k y) := by
  have hl := h.1
  simp only [List.length_cons] at hl
  obtain ⟨b, off, e, hb, hc⟩ := h.2.2.2 (by omega)
  exact ⟨b, off, e, hb, by omega, hc 0 (by simp), hc 1 (by simp)⟩
theorem right_cons (x y : Nat) (r : List Nat) : rightO (x :: y :: r) = (if x < 2 then decide (y < 40) else if x = 2 then decide (y ≤ 4294967215) else false) := by
  unfold rightO maxArc
  by_cases h1 : x < 2
  · rw [if_pos h1]
    simp [h1, show ¬ x = 2 from by omega]
  · rw [if_neg h1]
    by_cases h2 : x = 2
    · rw [if_pos h2]; simp [h2]
    · rw [if_neg h2]; simp [h1, h2]

set_option maxRecDepth 100000 in
set_option maxHeartbeats 1000000 in
theorem validArcs_any {w : World} {a : Option Addr} {n c : Nat} {L : List Nat} (h : Uk .u32 w a n c L) :
    Calls Tryd.prog 27 #[.slice a n c] w fun e w' => e = .returned (.bool (rightO L)) ∧ w = w' := by
  have hl := h.1
  have hcap := h.2.1
  have hm := h.2.2.1
  unfold maxLen at hm
  match L, h, hl with
  | [], h, hl =>
    obtain rfl : n = 0 := by simpa using hl.symm
    clear h hl
    go_enter Tryd.func27, Tryd.ntmps27
    go_wp2
    go_ret
    exact ⟨rfl, rfl⟩
  | [x], h, hl =>
    obtain rfl : n = 1 := by simpa using hl.symm
    clear h hl
    go_enter Tryd.func27, Tryd.ntmps27
    go_wp2
    go_ret
    exact ⟨rfl, rfl⟩
  | x :: y :: r, h, hl =>
    obtain ⟨b, off, rfl, hb, hn, h0, h1⟩ := h.two
    have hn2 : (2 : Int) ≤ n := by omega
    have hx0 : (0 : Int) ≤ x := by omega
    have hy0 : (0 : Int) ≤ y := by omega
    rw [right_cons]
    clear h hl hn
    by_cases hx : x < 2
    · have hx2 : (x : Int) < 2 := by omega
      rw [if_pos hx]
      by_cases hy : y < 40
      · have hy2 : (y : Int) < 40 := by omega
        go_enter Tryd.func27, Tryd.ntmps27
        go_wp2
        go_ret
        exact ⟨by simp [hy], rfl⟩
      · have hy2 : ¬ (y : Int) < 40 := by omega
        go_enter Tryd.func27, Tryd.ntmps27
        go_wp2
        go_ret
        exact ⟨by simp, rfl⟩
    · rw [if_neg hx]
      by_cases hx2 : x = 2
      · subst hx2
        rw [if_pos rfl]
        obtain ⟨C, hC⟩ : ∃ C : Int, (y : Int) = C := ⟨_, rfl⟩
        rw [hC] at h1 hy0
        have hd : decide (y ≤ 4294967215) = decide (C ≤ 4294967215) := decide_eq_decide.2 (by omega)
        rw [hd]
        clear hC hd
        go_enter Tryd.func27, Tryd.ntmps27
        go_wp2
        go_ret
        exact ⟨rfl, rfl⟩
      · rw [if_neg hx2]
        have hx3 : (x : Int) > 2 := by omega
        go_enter Tryd.func27, Tryd.ntmps27
        go_wp2
        go_ret
        exact ⟨rfl, rfl⟩

set_option maxRecDepth 100000 in
set_option maxHeartbeats 1000000 in
theorem refRight_any {w : World} {a : Option Addr} {n c : Nat} {L : List Nat} (h : Uk .u32 w a n c L) :
    Calls Tryd.prog 29 #[.slice a n c] w fun e w' => e = .returned (.bool (rightO L)) ∧ w = w' := by
  have hl := h.1
  have hcap := h.2.1
  have hm := h.2.2.1
  unfold maxLen at hm
  match L, h, hl with
  | [], h, hl =>
    obtain rfl : n = 0 := by simpa using hl.symm
    clear h hl
    go_enter Tryd.func29, Tryd.ntmps29
    go_wp2
    go_ret
    exact ⟨rfl, rfl⟩
  | [x], h, hl =>
    obtain rfl : n = 1 := by simpa using hl.symm
    clear h hl
    go_enter Tryd.func29, Tryd.ntmps29
    go_wp2
    go_ret
    exact ⟨rfl, rfl⟩
  | x :: y :: r, h, hl =>
    obtain ⟨b, off, rfl, hb, hn, h0, h1⟩ := h.two
    have hn2 : (2 : Int) ≤ n := by omega
    have hx0 : (0 : Int) ≤ x := by omega
    have hy0 : (0 : Int) ≤ y := by omega
    rw [right_cons]
    clear h hl hn
    by_cases hx : x < 2
    · have hx2 : (x : Int) < 2 := by omega
      have hx4 : ¬ (x : Int) = 2 := by omega
      rw [if_pos hx]
      by_cases hy : y < 40
      · have hy2 : (y : Int) < 40 := by omega
        go_enter Tryd.func29, Tryd.ntmps29
        go_wp2
        go_ret
        exact ⟨by simp [hy], rfl⟩
      · have hy2 : ¬ (y : Int) < 40 := by omega
        go_enter Tryd.func29, Tryd.ntmps29
        go_wp2
        go_ret
        exact ⟨by simp, rfl⟩
    · rw [if_neg hx]
      by_cases hx2 : x = 2
      · subst hx2
        rw [if_pos rfl]
        obtain ⟨C, hC⟩ : ∃ C : Int, (y : Int) = C := ⟨_, rfl⟩
        rw [hC] at h1 hy0
        have hd : decide (y ≤ 4294967215) = decide (C ≤ 4294967215) := decide_eq_decide.2 (by omega)
        rw [hd]
        clear hC hd
        go_enter Tryd.func29, Tryd.ntmps29
        go_wp2
        go_ret
        exact ⟨rfl, rfl⟩
      · rw [if_neg hx2]
        have hx3 : (x : Int) > 2 := by omega
        go_enter Tryd.func29, Tryd.ntmps29
        go_wp2
        go_ret
        exact ⟨rfl, rfl⟩
end Go.Proofs.YtepicefbpadbhaaDoor
