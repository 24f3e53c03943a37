/-
  Contract of the library's strings.SplitSeq at one byte (a point): the iterator hands out the parts, one after the other; it keeps what is left in a cell of its own.
-/
import Derived.Test.YtepicefbpadbhaaDoorRangeBox
import Derived.Test.YtepicefbpadbhaaDoorOidWd
import Derived.Test.YtepicefbpadbhaaDoorOidArcsMath
import Derived.Shelf.Abstract
import Derived.Shelf.RegionOpen
import Derived.OwnWalkIn
import Derived.TacticsInMore
import Derived.LoopNIn
import Derived.LoopIn
namespace Go.Proofs.YtepicefbpadbhaaDoor
open Go.RowKit Go.Shelf
attribute [local go_sem] Oper.semAt_some

theorem idx_cases : ∀ l : List UInt8, (Lib.indexByte l 46 = -1 ∧ ∀ x ∈ l, x ≠ 46) ∨ ∃ s r, l = s ++ 46 :: r ∧ (∀ x ∈ s, x ≠ 46) ∧ Lib.indexByte l 46 = (s.length : Int)
  | [] => .inl ⟨rfl, by simp⟩
  | x :: l => by
    by_cases hx : x = 46
    · subst hx
      exact .inr ⟨[], l, rfl, by simp, rfl⟩
    · have hb : (x == 46) = false := by simpa using hx
      rcases idx_cases l with ⟨h1, h2⟩ | ⟨s, r, rfl, h2, h3⟩
      · refine .inl ⟨by rw [Lib.indexByte, hb, h1]; rfl, ?_⟩
        intro y hy
        rcases List.mem_cons.1 hy with rfl | hy
        · exact hx
        · exact h2 y hy
      · refine .inr ⟨x :: s, r, rfl, ?_, ?_⟩
        · intro y hy
          rcases List.mem_cons.1 hy with rfl | hy
          · exact hx
          · exact h2 y hy
        · rw [Lib.indexByte, hb, h3]
          have hne : ((s.length : Int) == -1) = false := by simp
          rw [hne]
          simp
/-- how much is left in the cell -/
def leftAt (B : Nat) (w : World) : Nat := match w.cell? ⟨B, 0, none⟩ with | some (.string s) => s.size | _ => 0
theorem leftAt_box {B : Nat} {w : World} {t : TypeId} {l : List UInt8} (h : Boxed w B t (.string ⟨l.toArray⟩)) : leftAt B w = l.length := by
  unfold leftAt
  rw [h.cell]
  rfl
/-- the iterator's own boxes -/
def BoxKept (B : Nat) (A C : World) : Prop := ∀ k, B ≤ k → k < B + 3 → C.heap[k]? = A.heap[k]?
def BoxWrites (B : Nat) (A C : World) : Prop := ∃ v, C = A.setCell ⟨B, 0, none⟩ v
theorem BoxKept.trans {B : Nat} {X Y Z : World} (h : BoxKept B X Y) (k : BoxKept B Y Z) : BoxKept B X Z := fun i h1 h2 => (k i h1 h2).trans (h i h1 h2)
theorem BoxKept.putObj {B S : Nat} (hS : B + 3 ≤ S) (W : World) (l : Nat) (o : Obj) (hl : S ≤ l) : BoxKept B W (W.putObj l o) := fun k _ hk => World.putObj_heap_other (by omega)
theorem BoxWrites.away {B S : Nat} (hS : B + 3 ≤ S) {A C : World} (h : BoxWrites B A C) (l : Nat) (hl : S ≤ l) : C.heap[l]? = A.heap[l]? := by
  obtain ⟨v, rfl⟩ := h
  exact Below.heap_setCell _ _ _ l (by show l ≠ B; omega)
theorem BoxKept.below {B n : Nat} {A C : World} (h : Below n A C) (hn : B + 3 ≤ n) : BoxKept B A C := fun k _ hk => h.block k (by omega)

set_option maxRecDepth 100000 in
set_option maxHeartbeats 2000000 in
theorem splitSeq_any (n : Nat) (w : World) (l : List UInt8) :
    CallsIn Fence.wide n Tryd.prog 25 #[.string ⟨l.toArray⟩, .string ⟨#[46]⟩] w fun e w' => e = .returned (.func (.func 43) #[] #[.pointer (some ⟨w.heap.size + 1, 0, none⟩), .pointer (some ⟨w.heap.size, 0, none⟩), .pointer (some ⟨w.heap.size + 2, 0, none⟩)]) ∧
      w' = ((w.alloc (.cells #[.string ⟨l.toArray⟩] 9)).alloc (.cells #[.string ⟨#[46]⟩] 9)).alloc (.cells #[.int .i64 0] 3) := by
  refine callsIn_wide.2 ?_
  go_enter Tryd.func25, Tryd.ntmps25
  go_wp2
  go_ret
  exact ⟨rfl, rfl⟩

set_option maxRecDepth 100000 in
set_option maxHeartbeats 4000000 in
theorem split_gives (n : Nat) (hn : 2 ≤ n) (w : World) (B : Nat) (l : List UInt8) (hz : l.length ≤ 1000000) (h0 : Boxed w B 9 (.string ⟨l.toArray⟩)) (h1 : Boxed w (B + 1) 9 (.string ⟨#[46]⟩)) (h2 : Boxed w (B + 2) 3 (.int .i64 0)) :
    Gives Fence.wide n Tryd.prog 43 #[.pointer (some ⟨B + 1, 0, none⟩), .pointer (some ⟨B, 0, none⟩), .pointer (some ⟨B + 2, 0, none⟩)] (fun x : List UInt8 => #[Value.string ⟨x.toArray⟩]) (BoxKept B) (BoxWrites B) (splitO l) w := by
  intro lp J Jx W hW hJ hJx hY hJ0
  have hn1 : 1 ≤ n := by omega
  have hB2 : B + 2 < w.heap.size := h2.lt
  have k0 : Boxed W B 9 (.string ⟨l.toArray⟩) := (hW.block B (by omega)).trans h0
  have k1 : Boxed W (B + 1) 9 (.string ⟨#[46]⟩) := (hW.block (B + 1) (by omega)).trans h1
  have k2 : Boxed W (B + 2) 3 (.int .i64 0) := (hW.block (B + 2) (by omega)).trans h2
  have c1 := k1.cell
  obtain ⟨B1, hB1⟩ : ∃ B1, B + 1 = B1 := ⟨_, rfl⟩
  obtain ⟨B2, hB2'⟩ : ∃ B2, B + 2 = B2 := ⟨_, rfl⟩
  rw [hB1] at k1 c1 ⊢
  rw [hB2'] at k2 ⊢
  refine callsIn_of_wp Tryd.func43 rfl trivial ?_ rfl
  simp only [Tryd.ntmps43, List.size_toArray, List.length_cons, List.length_nil, Nat.reduceAdd, Nat.reduceSub, Array.replicate_succ, Array.replicate_zero, List.push_toArray, List.append_toArray, List.nil_append, List.cons_append]
  gi_wp2
  gi_loopw [7] (fun _ wr => ∃ (pre : List (List UInt8)) (rest : List UInt8), splitO l = pre ++ splitO rest ∧ rest.length ≤ l.length ∧ Boxed wr B 9 (.string ⟨rest.toArray⟩) ∧ Boxed wr B1 9 (.string ⟨#[46]⟩) ∧ Boxed wr B2 3 (.int .i64 0) ∧ J pre wr) (fun _ wr => leftAt B wr)
  case atStart => exact ⟨[], l, rfl, Nat.le_refl _, k0, k1, k2, hJ0⟩
  case round =>
    obtain ⟨pre, rest, hx, hrl, m0, m1, m2, hj⟩ := hrel
    have d0 := m0.cell
    have d1 := m1.cell
    have d2 := m2.cell
    have HL := Lib.hid (leftAt_box m0)
    have HI : CallsIn Fence.wide (n - 1) Tryd.prog 45 #[.string ⟨rest.toArray⟩, .string ⟨#[46]⟩] wr fun e w' => e = .returned (.int .i64 (Lib.indexByte rest 46)) ∧ w' = wr := callsIn_wide.2 (Tryd.strings_Index_one ⟨rest.toArray⟩ 46 wr)
    rcases idx_cases rest with ⟨hi, hno⟩ | ⟨s, r, rfl, hno, hi⟩
    · rw [hi] at HI
      obtain ⟨fn, tmps, assign, body, hy, hR⟩ := hY pre rest [] wr (by rw [hx, split_plain rest hno]) hj
      have HR := Lib.hid hR
      have hxs : Hid (splitO l = pre ++ [rest]) := by rw [hx, split_plain rest hno]; rfl
      clear hx hno hi hj HL hR m0 m1 m2
      gi_wp2_with fail
      refine ⟨trivial, HI.mono ?_⟩
      rintro e w2 ⟨rfl, rfl⟩
      gi_wp2_with fail
      refine HR.out.mono ?_
      rintro e W3 (⟨rfl, hJ3, hk3⟩ | ⟨rfl, hJx3⟩)
      · gi_wp2
        go_end0
        exact ⟨⟨_, rfl⟩, .inl (by rw [hxs.out]; exact hJ3)⟩
      · gi_wp2
        go_end0
        exact ⟨⟨_, rfl⟩, .inr ⟨_, (by rw [hxs.out]; exact List.prefix_refl _), hJx3⟩⟩
    · have ek : (s ++ 46 :: r).length = s.length + 1 + r.length := by simp; omega
      obtain ⟨k, hk⟩ : ∃ k, s.length = k := ⟨_, rfl⟩
      rw [hi, hk] at HI
      rw [hk] at ek
      obtain ⟨fn, tmps, assign, body, hy, hR⟩ := hY pre s (splitO r) wr (by rw [hx, split_cons s r hno]) hj
      have HR := Lib.hid hR
      have hxs : Hid (splitO l = pre ++ s :: splitO r) := by rw [hx, split_cons s r hno]; rfl
      have hsz : (⟨(s ++ 46 :: r).toArray⟩ : ByteArray).size = k + 1 + r.length := by rw [← ek]; rfl
      have e1 : (⟨(s ++ 46 :: r).toArray⟩ : ByteArray).extract 0 k = ⟨s.toArray⟩ := by
        rw [str_cut, ← hk]
        simp
      have e2 : Hid ((⟨(s ++ 46 :: r).toArray⟩ : ByteArray).extract (k + 1) (k + 1 + r.length) = ⟨r.toArray⟩) := by
        rw [Hid, str_cut, ← hk]
        simp
      rw [← e1] at hy
      have hrb : (k : Int) + 1 + r.length ≤ 1000000 := by omega
      have hk0 : (0 : Int) ≤ k := by omega
      have hr0 : (0 : Int) ≤ r.length := by omega
      obtain ⟨R, hR⟩ : ∃ R, r.length = R := ⟨_, rfl⟩
      have HRL := Lib.hid hR
      rw [hR] at hsz e2 hrb hr0
      generalize (⟨(s ++ 46 :: r).toArray⟩ : ByteArray) = S at *
      clear hx hno hi hj hR hk ek e1
      gi_wp2_with fail
      refine ⟨trivial, HI.mono ?_⟩
      rintro e w2 ⟨rfl, rfl⟩
      gi_wp2_with fail
      refine HR.out.mono ?_
      rintro e W3 (⟨rfl, hJ3, hk3⟩ | ⟨rfl, hJx3⟩)
      · have q0 : Boxed W3 B 9 (.string S) := (hk3 B (by omega) (by omega)).trans m0
        have q1 : Boxed W3 B1 9 (.string ⟨#[46]⟩) := (hk3 B1 (by omega) (by omega)).trans m1
        have q2 : Boxed W3 B2 3 (.int .i64 0) := (hk3 B2 (by omega) (by omega)).trans m2
        have d0' := q0.cell
        have f0' := q0.frozen
        have d1' := q1.cell
        have HJ3 := Lib.hid (hJ _ _ _ ⟨.string ⟨r.toArray⟩, rfl⟩ hJ3)
        have Q0 := Lib.hid (q0.set (.string ⟨r.toArray⟩))
        have Q1 : Hid (Boxed (W3.setCell ⟨B, 0, none⟩ (.string ⟨r.toArray⟩)) B1 9 (.string ⟨#[46]⟩)) := (Below.heap_setCell _ _ _ B1 (by show B1 ≠ B; omega)).trans q1
        have Q2 : Hid (Boxed (W3.setCell ⟨B, 0, none⟩ (.string ⟨r.toArray⟩)) B2 3 (.int .i64 0)) := (Below.heap_setCell _ _ _ B2 (by show B2 ≠ B; omega)).trans q2
        clear hJ3 hk3 q0 q1 q2 m0 m1 m2 d0 d1 d2
        gi_wp2
        rw [e2.out]
        refine ⟨⟨pre ++ [s], r, by rw [hxs.out]; simp, by have h := hrl; simp only [List.length_append, List.length_cons] at h; omega, Q0.out, Q1.out, Q2.out, HJ3.out⟩, ?_⟩
        rw [leftAt_box Q0.out, HL.out]
        simp only [List.length_append, List.length_cons]
        omega
      · gi_wp2
        refine bodyPost_ret (results_none rfl _ _ _) rfl ?_
        exact ⟨⟨_, rfl⟩, .inr ⟨pre ++ [s], ⟨splitO r, by rw [hxs.out]; simp⟩, hJx3⟩⟩
end Go.Proofs.YtepicefbpadbhaaDoor
