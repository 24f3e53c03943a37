/-
  Contract of the library's slices.Chunk at octets: the iterator hands out pieces of W octets, one after the other.
-/
import Derived.Test.YtkmpmphabohkkaaDoorRangeBox
import Derived.Test.YtkmpmphabohkkaaDoorChTextM
import Derived.Shelf.Abstract
import Derived.Shelf.RegionOpen
import Derived.OwnWalkIn
import Derived.TacticsInMore
import Derived.LoopNIn
import Derived.LoopIn
import Derived.BigRegionIn
namespace Go.Proofs.YtkmpmphabohkkaaDoor
open Go.RowKit Go.Shelf
attribute [local go_sem] Oper.semAt_some

/-- the iterator's own boxes -/
def BoxKept2 (B : Nat) (A C : World) : Prop := ∀ k, B ≤ k → k < B + 2 → C.heap[k]? = A.heap[k]?
theorem BoxKept2.trans {B : Nat} {X Y Z : World} (h : BoxKept2 B X Y) (k : BoxKept2 B Y Z) : BoxKept2 B X Z := fun i h1 h2 => (k i h1 h2).trans (h i h1 h2)
theorem BoxKept2.putObj {B S : Nat} (hS : B + 2 ≤ S) (W : World) (l : Nat) (o : Obj) (hl : S ≤ l) : BoxKept2 B W (W.putObj l o) := fun k _ hk => World.putObj_heap_other (by omega)

theorem range_at : ∀ (m : Nat) {j : Nat}, j < m → ∃ post, List.range m = List.range j ++ j :: post
  | 0, j, h => absurd h (by omega)
  | m + 1, j, h => by
    by_cases he : j = m
    · subst he
      exact ⟨[], List.range_succ⟩
    · obtain ⟨post, hp⟩ := range_at m (by omega : j < m)
      exact ⟨post ++ [m], by rw [List.range_succ, hp]; simp⟩
set_option maxRecDepth 100000 in
set_option maxHeartbeats 2000000 in
theorem chunk_any (n : Nat) (w : World) (a : Option Addr) (m c : Nat) (W : Nat) (hW : 1 ≤ W) :
    CallsIn Fence.wide n Tryd.prog 48 #[.slice a m c, .int .i64 W] w fun e w' => e = .returned (.func (.func 63) #[] #[.pointer (some ⟨w.heap.size, 0, none⟩), .pointer (some ⟨w.heap.size + 1, 0, none⟩)]) ∧
      w' = (w.alloc (.cells #[.slice a m c] 25)).alloc (.cells #[.int .i64 W] 3) := by
  refine callsIn_wide.2 ?_
  have hW2 : ¬ (W : Int) < 1 := by omega
  go_enter Tryd.func48, Tryd.ntmps48
  go_wp2
  go_ret
  exact ⟨rfl, rfl⟩

set_option maxRecDepth 100000 in
set_option maxHeartbeats 4000000 in
theorem chunk_gives (n : Nat) (hn : 2 ≤ n) (w : World) (B g off c W m : Nat) (a : Option Addr) (ha : 0 < m → a = some ⟨g, off, none⟩) (hW : 1 ≤ W) (hW4 : W ≤ 4) (hm : m * W ≤ 1000000) (hc : m * W ≤ c) (h0 : Boxed w B 25 (.slice a (m * W) c)) (h1 : Boxed w (B + 1) 3 (.int .i64 W)) :
    Gives Fence.wide n Tryd.prog 63 #[.pointer (some ⟨B, 0, none⟩), .pointer (some ⟨B + 1, 0, none⟩)] (fun j : Nat => #[Value.slice (some ⟨g, off + j * W, none⟩) W W]) (BoxKept2 B) (fun A C => C = A.drew) (List.range m) w := by
  intro lp J Jx W0 hW0 hJ hJx hY hJ0
  have hn1 : 1 ≤ n := by omega
  have hB1 : B + 1 < w.heap.size := h1.lt
  have k0 : Boxed W0 B 25 (.slice a (m * W) c) := (hW0.block B (by omega)).trans h0
  have k1 : Boxed W0 (B + 1) 3 (.int .i64 W) := (hW0.block (B + 1) (by omega)).trans h1
  obtain ⟨B1, hB1'⟩ : ∃ B1, B + 1 = B1 := ⟨_, rfl⟩
  rw [hB1'] at k1 ⊢
  have HB1 := Lib.hid hB1'
  clear hB1'
  refine callsIn_of_wp Tryd.func63 rfl trivial ?_ rfl
  simp only [Tryd.ntmps63, List.size_toArray, List.length_cons, List.length_nil, Nat.reduceAdd, Nat.reduceSub, Array.replicate_succ, Array.replicate_zero, List.push_toArray, List.append_toArray, List.nil_append, List.cons_append]
  gi_wp2
  gi_loopw [4] (fun i wr => ∃ j : Nat, j ≤ m ∧ i = .int .i64 ((j * W : Nat) : Int) ∧ Boxed wr B 25 (.slice a (m * W) c) ∧ Boxed wr B1 3 (.int .i64 W) ∧ J (List.range j) wr) (fun i _ => (m * W - intOf i).toNat)
  case atStart => exact ⟨0, Nat.zero_le _, by rw [Nat.zero_mul]; rfl, k0, k1, hJ0⟩
  case round =>
    obtain ⟨j, hj, rfl, m0, m1, hjj⟩ := hrel
    by_cases h : j < m
    · obtain rfl := ha (by omega)
      have d0 := m0.cell
      have d1 := m1.cell
      have hjm : j * W + W ≤ m * W := by rw [← Nat.succ_mul]; exact Nat.mul_le_mul_right W h
      obtain ⟨post, hx⟩ := range_at m h
      obtain ⟨fn, tmps, assign, body, hy, hR⟩ := hY (List.range j) j post wr.drew hx (hJ _ _ _ rfl hjj)
      have hxs : Hid (List.range j ++ [j] <+: List.range m) := ⟨post, by rw [hx]; simp⟩
      have HRS : Hid (List.range (j + 1) = List.range j ++ [j]) := List.range_succ
      have HR := Lib.hid hR
      clear hR hx
      have HPP : Hid ((j + 1) * W = j * W + W) := Nat.succ_mul j W
      generalize hP : j * W = P at *
      generalize hM : m * W = M at *
      have hlt : (P : Int) < M := by omega
      have hP0 : (0 : Int) ≤ P := by omega
      have hmin : min (W : Int) ((M - P : Nat) : Int) = W := by omega
      have hs1 : P + W - P = W := by omega
      have hMI : (M : Int) ≤ 1000000 := by omega
      have hWI : (W : Int) ≤ 4 := by omega
      have hWI0 : (1 : Int) ≤ W := by omega
      gi_wp2_with fail
      gi_region
      gi_wp2_with fail
      refine HR.out.mono ?_
      rintro e W3 (⟨rfl, hJ3, hk3⟩ | ⟨rfl, hJx3⟩)
      · have q0 : Boxed W3 B 25 (.slice (some ⟨g, off, none⟩) M c) := (hk3 B (by omega) (by omega)).trans m0
        have q1 : Boxed W3 B1 3 (.int .i64 W) := (hk3 B1 (by have := HB1.out; omega) (by have := HB1.out; omega)).trans m1
        have d0' := q0.cell
        have d1' := q1.cell
        clear hk3
        gi_wp2_with fail
        go_roundw
        case rel => exact ⟨j + 1, h, by rw [HPP.out]; simp, q0, q1, by rw [HRS.out]; exact hJ3⟩
        case measure => simp [intOf]; omega
      · gi_wp2
        refine bodyPost_ret (results_none rfl _ _ _) rfl ?_
        exact ⟨⟨_, rfl⟩, .inr ⟨_, hxs.out, hJx3⟩⟩
    · have d0 := m0.cell
      have d1 := m1.cell
      obtain rfl : j = m := by omega
      have hlt : ¬ ((j * W : Nat) : Int) < ((j * W : Nat) : Int) := by omega
      gi_wp2_with fail
      go_end0
      exact ⟨⟨_, rfl⟩, .inl hjj⟩
end Go.Proofs.YtkmpmphabohkkaaDoor
