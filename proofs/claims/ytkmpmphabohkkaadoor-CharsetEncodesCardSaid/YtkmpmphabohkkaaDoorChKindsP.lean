/-
  Contract of the program's Kinds: the map gone through in any order, then sorted.
-/
import Derived.Test.YtkmpmphabohkkaaDoorChTable
import Derived.Test.YtkmpmphabohkkaaDoorChFold
import Derived.Test.YtkmpmphabohkkaaDoorShelf
namespace Go.Proofs.YtkmpmphabohkkaaDoor
open Go.RowKit
open Go.ChangeMaps (setBlock)
open Go.Sort

/-! ### plain -/
/-- the kind of the entry with a stamp -/
def kd (i : Nat) : Nat := kindsL.getD i 0
theorem nodup_le : ∀ (n : Nat) (sn : List Nat), sn.Nodup → (∀ x ∈ sn, x < n) → sn.length ≤ n
  | 0, [], _, _ => Nat.le_refl _
  | 0, x :: sn, _, h => absurd (h x (List.mem_cons_self ..)) (by omega)
  | n + 1, sn, h1, h2 => by
    have h3 := nodup_le n (sn.erase n) (h1.erase n) (fun x hx => by
      have := (h1.mem_erase_iff).1 hx
      have := h2 x this.2
      omega)
    rw [List.length_erase] at h3
    split at h3 <;> omega
theorem kd_perm {sn : List Nat} (h1 : sn.Nodup) (h2 : ∀ x ∈ sn, x < 7) (h3 : ∀ x, x < 7 → x ∈ sn) : (sn.map kd).Perm kindsL := by
  have hp : sn.Perm (List.range 7) := (List.perm_ext_iff_of_nodup h1 List.nodup_range).2 fun a => by
    rw [List.mem_range]
    exact ⟨h2 a, h3 a⟩
  exact (hp.map kd).trans (by rw [show (List.range 7).map kd = kindsL by decide +kernel])
theorem kd_sort {L : List Nat} (h : L.Perm kindsL) : (L.map (fun x : Nat => (x : Int))).mergeSort (fun x y => decide (x ≤ y)) = kindsL.map (fun x : Nat => (x : Int)) := by
  refine List.Perm.eq_of_pairwise (le := fun a b : Int => a ≤ b) (fun a b _ _ h1 h2 => Int.le_antisymm h1 h2) ?_ (by decide +kernel) ((List.mergeSort_perm _ _).trans (h.map _))
  have := List.pairwise_mergeSort (le := fun x y : Int => decide (x ≤ y)) (fun a b c h1 h2 => by simp at *; omega) (fun a b => by simp; omega) (L.map (fun x : Nat => (x : Int)))
  exact this.imp (fun h => by simpa using h)
theorem tbl_born : ∀ x ∈ tblE.toList, x.born < 7 ∧ x.key = .int .i64 (kd x.born) := by
  intro x hx
  have : x ∈ tblE.toList := hx
  unfold tblE at this
  simp only [List.mem_cons, List.not_mem_nil, or_false] at this
  rcases this with rfl | rfl | rfl | rfl | rfl | rfl | rfl <;> exact ⟨by decide, rfl⟩
theorem tbl_nodup : (tblE.toList.map (·.born)).Nodup := by show [0, 1, 2, 3, 4, 5, 6].Nodup; decide
theorem left_new {sn : List Nat} {e : MapEntry} (h : e ∈ (leftOf tblE sn.toArray).toList) : e ∈ tblE.toList ∧ e.born ∉ sn := by
  unfold leftOf at h
  simp at h
  exact ⟨by simpa using h.1, h.2⟩
theorem left_none {sn : List Nat} (h : (leftOf tblE sn.toArray).size = 0) : ∀ x, x < 7 → x ∈ sn := by
  have h0 := Array.eq_empty_of_size_eq_zero h
  have all : ∀ e ∈ tblE.toList, e.born ∈ sn := by
    intro e he
    apply Classical.byContradiction
    intro hn
    have : e ∈ (leftOf tblE sn.toArray) := by
      unfold leftOf
      simp [hn]
      simpa using he
    rw [h0] at this
    simp at this
  intro x hx
  have hx' : ∃ e ∈ tblE.toList, e.born = x := by
    rcases (by omega : x = 0 ∨ x = 1 ∨ x = 2 ∨ x = 3 ∨ x = 4 ∨ x = 5 ∨ x = 6) with rfl | rfl | rfl | rfl | rfl | rfl | rfl
    · exact ⟨tblE[0]'(by decide), by simp, rfl⟩
    · exact ⟨tblE[1]'(by decide), by simp, rfl⟩
    · exact ⟨tblE[2]'(by decide), by simp, rfl⟩
    · exact ⟨tblE[3]'(by decide), by simp, rfl⟩
    · exact ⟨tblE[4]'(by decide), by simp, rfl⟩
    · exact ⟨tblE[5]'(by decide), by simp, rfl⟩
    · exact ⟨tblE[6]'(by decide), by simp, rfl⟩
  obtain ⟨e, he, rfl⟩ := hx'
  exact all e he

/-! ### the world -/
theorem below_setBlock {B k : Nat} {a w : World} (h : Below B a w) (hk : B ≤ k) (o : Obj) : Below B a (setBlock w k o) :=
  ⟨h.os, h.tape, h.output, by show a.heap.size ≤ (w.heap.setIfInBounds k o).size; rw [Array.size_setIfInBounds]; exact h.size, fun j hj => by
    show (w.heap.setIfInBounds k o)[j]? = _
    rw [Array.getElem?_setIfInBounds_ne (by omega)]
    exact h.block j hj⟩
theorem own_blockK {q : IntKind} {w : World} {n : Nat} {e : TypeId} {a : Option Addr} {m c : Nat} {l : List Nat} (h : OwnK q w n e a m c l) : ∀ g, (Value.slice a m c).ownBlock = some g → ∃ cs fz, w.heap[g]? = some (.cells cs e fz) := by
  intro g hg
  rcases h.2 with ⟨h1, _⟩ | ⟨g', cap, cur, h1, _, h3, _⟩
  · injection h1 with h1
    subst h1
    cases hg
  · injection h1 with h1
    subst h1
    injection hg with hg
    subst hg
    exact ⟨_, _, h3⟩
theorem own_blockA {q : IntKind} {w : World} {n : Nat} {e : TypeId} {a : Option Addr} {m c : Nat} {l : List Nat} (h : OwnK q w n e a m c l) {x : Addr} (hx : a = some x) : ∃ cs fz, w.heap[x.block]? = some (.cells cs e fz) := by
  subst hx
  exact own_blockK h _ rfl
theorem ownK_setBlock {q : IntKind} {w : World} {B k : Nat} {e : TypeId} {a : Option Addr} {n c : Nat} {L : List Nat} (h : OwnK q w B e a n c L) (o : Obj) {mo : Option Nat} {s c0 : Nat} {seen : Array Nat} (hk : w.heap[k]? = some (.mapIter mo s seen c0)) : OwnK q (setBlock w k o) B e a n c L :=
  h.keep (fun x hx => by
    obtain ⟨cs, fz, h1⟩ := own_blockA h hx
    show (w.heap.setIfInBounds k o)[x.block]? = _
    rw [Array.getElem?_setIfInBounds_ne]
    intro e
    rw [← e, hk] at h1
    cases h1)
theorem obj_grown {q : IntKind} {w w' : World} {B k : Nat} {e : TypeId} {a : Option Addr} {n c : Nat} {L : List Nat} (hg : w.grownBy w' (Value.ownBlock (.slice a n c))) (h : OwnK q w B e a n c L) {o : Obj} (hk : w.heap[k]? = some o) (ho : ∀ cs t fz, o ≠ .cells cs t fz) : w'.heap[k]? = some o := by
  refine (hg.block k (Array.getElem?_eq_some_iff.1 hk).1 (fun e1 => ?_)).trans hk
  obtain ⟨cs, fz, h1⟩ := own_blockK h k e1.symm
  rw [hk] at h1
  exact ho _ _ _ (Option.some.inj h1)
def slLen : Value → Nat | .slice _ n _ => n | _ => 0
/-- what the library's Sort leaves -/
theorem sort_any {w : World} {B : Nat} {a : Option Addr} {n c : Nat} {L : List Nat} (h : OwnK .i64 w B 3 a n c L) (hn : 0 < n) (hl : n ≤ 1000000) {S : List Nat} (hS : (L.map (fun x : Nat => (x : Int))).mergeSort (fun x y => decide (x ≤ y)) = S.map (fun x : Nat => (x : Int))) (hlen : S.length = n) :
    Calls Tryd.prog 40 #[.slice a n c] w fun e w' => e = .returned (.tuple #[]) ∧ Uk .i64 w' a n c S ∧ Below B w w' := by
  obtain ⟨g, rfl, hg1, hg2⟩ := h.pos hn
  have hL := h.len
  have hH : Holds (Value.int .i64) w g 0 (L.map (fun x : Nat => (x : Int))).toArray := by
    intro j hj
    have hj' : j < L.length := by simpa using hj
    have e : (L.map (fun x : Nat => (x : Int))).toArray[j]! = (L[j] : Int) := by
      rw [getElem!_pos _ _ (by simpa using hj')]
      simp
    rw [e, Nat.zero_add]
    exact ⟨h.cell hj', h.frozen j⟩
  have hlz : (L.map (fun x : Nat => (x : Int))).length = n := by rw [List.length_map, hL]
  have hc := Tryd.slices_Sort_int g 0 c (L.map (fun x : Nat => (x : Int))) w hH hg2 (by rw [hlz]; omega)
  rw [hlz, hS] at hc
  refine hc.mono ?_
  rintro e w' ⟨rfl, k, os, rfl⟩
  have hsz : (putRow (Value.int .i64) (Sort.ahead w k) g 0 (S.map (fun x : Nat => (x : Int))).toArray).heap.size = w.heap.size := by
    show (w.heap.modify _ _).size = _
    rw [Array.size_modify]
  have h2 : Holds (Value.int .i64) (grow (putRow (Value.int .i64) (Sort.ahead w k) g 0 (S.map (fun x : Nat => (x : Int))).toArray) os) g 0 (S.map (fun x : Nat => (x : Int))).toArray :=
    holds_grow _ _ _ _ _ _ (by rw [hsz]; exact hg2) (holds_putRow _ _ _ _ _ _ (holds_ahead _ _ k _ _ _ hH) (by simp [hL, hlen]))
  refine ⟨rfl, ⟨hlen, h.cap.1, h.cap.2, fun _ => ⟨g, 0, rfl, ?_, fun i hi => ?_⟩⟩, ⟨rfl, rfl, rfl, ?_, fun j hj => ?_⟩⟩
  · show g < (_ ++ os).size
    rw [Array.size_append, hsz]
    omega
  · have := (h2 i (by simpa using hi)).1
    rw [this, getElem!_pos _ _ (by simpa using hi)]
    simp
  · show w.heap.size ≤ (_ ++ os).size
    rw [Array.size_append, hsz]
    omega
  · rw [heap_grow_old _ _ (by rw [hsz]; omega)]
    show (w.heap.modify g _)[j]? = _
    rw [Array.getElem?_modify, if_neg (by omega)]

set_option maxRecDepth 100000 in
set_option maxHeartbeats 2000000 in
theorem kinds7_any (w : World) :
    Calls Tryd.prog 23 #[] w fun e w' => ∃ a c, e = .returned (.slice a 7 c) ∧ Uk .i64 w' a 7 c kindsL ∧ Below w.heap.size w w' := by
  obtain ⟨i0, hi, hz0, hz1, hz2⟩ := info_parts info_int7
  have HT : Hid (∃ b, b = w.heap.size ∧ Calls Tryd.prog 27 #[] w fun e w' => e = .returned (.map (some b)) ∧ w' = w.alloc (.map tblE 7)) := ⟨_, rfl, table_any w⟩
  obtain ⟨b, hb, HT2⟩ := HT.out
  have HC := Lib.hid HT2
  clear HT HT2
  go_enter Tryd.func23, Tryd.ntmps23
  go_wp2_with fail
  with_reducible refine HC.out.mono ?_
  rintro e w1 ⟨rfl, hw1⟩
  have hB1 : w1.heap[b]? = some (.map tblE 7) := by rw [hw1, hb]; exact (MapKept.heap_alloc w _).1
  have Q1 : Hid (Below w.heap.size w w1) := by rw [hw1]; exact bal (Below.refl _ w) _
  clear hw1 HC hb
  have hlt1 := (Array.getElem?_eq_some_iff.1 hB1).1
  obtain ⟨I, hI⟩ : ∃ I, w1.heap.size = I := ⟨_, rfl⟩
  have HGE : Hid (w.heap.size ≤ I) := by rw [Hid, ← hI]; exact Q1.out.size
  have HNE : Hid (b ≠ I) := by rw [Hid, ← hI]; exact Nat.ne_of_lt hlt1
  have hrg : (Instr.range 49 (.map (some b))).run Tryd.prog w1 = .ok (.pointer (some ⟨I, 0, none⟩)) (w1.alloc (.mapIter (some b) 7 #[] 7)) := by
    have hu := run_underlying (w := w1) Tryd.underlying49
    rw [← hI]
    simp [Instr.range, hu, MapKept.run_getObj_map hB1, Result.andThen, newObj, Sem.run]
  have I1 : Hid ((w1.alloc (.mapIter (some b) 7 #[] 7)).heap[I]? = some (.mapIter (some b) 7 #[] 7)) := by rw [Hid, ← hI]; exact (MapKept.heap_alloc w1 _).1
  have B1 : Hid ((w1.alloc (.mapIter (some b) 7 #[] 7)).heap[b]? = some (.map tblE 7)) := (Below.heap_alloc _ _ _ hlt1).trans hB1
  have Q2 := Lib.hid (bal Q1.out (.mapIter (some b) 7 #[] 7))
  clear hI hB1 hlt1
  go_wp2_with fail
  generalize w1.alloc (.mapIter (some b) 7 #[] 7) = w2 at *
  clear hrg
  go_loopw [1] (fun v wr => ∃ (a : Option Addr) (c : Nat) (sn : List Nat) (c0 : Nat), v = .slice a sn.length c ∧ OwnK .i64 wr w.heap.size 3 a sn.length c (sn.map kd) ∧ wr.heap[I]? = some (.mapIter (some b) 7 sn.toArray c0) ∧ 7 ≤ c0 ∧ wr.heap[b]? = some (.map tblE 7) ∧ sn.Nodup ∧ (∀ x ∈ sn, x < 7) ∧ Below w.heap.size w wr) (fun v _ => 7 - slLen v)
  case atStart => exact ⟨none, 0, [], 7, rfl, OwnK.nil_ _ _ _ _, I1.out, Nat.le_refl _, B1.out, List.nodup_nil, fun x hx => absurd hx (by simp), Q2.out⟩
  case round =>
    obtain ⟨a, c, sn, c0, rfl, ho, hit, hc0, hbm, hnd, hall, hq⟩ := hrel
    have hle := nodup_le 7 sn hnd hall
    have hsz := hq.size
    rcases run_next_at (P := Tryd.prog) wr 0 I b 7 c0 sn.toArray tblE 7 hit hbm (fun x hx => (tbl_born x hx).1) hc0 with ⟨h0, hrun⟩ | ⟨e, hmem, w3, hw3, hrun⟩
    · have hpm := kd_perm hnd hall (left_none h0)
      have hlen : sn.length = 7 := by have := hpm.length_eq; rw [List.length_map] at this; exact this
      have hnx := fun ty => (show (Instr.next (.pointer (some ⟨I, 0, none⟩)) false ty).run Tryd.prog wr = .ok (.tuple #[.bool false]) wr from hrun)
      have HS := Lib.hid (sort_any ho (by omega) (by omega) (kd_sort hpm) (by rw [hlen]; rfl))
      have Q := Lib.hid hq
      rw [hlen] at HS ⊢
      clear ho hit hbm hnd hall hq hrun h0 hpm
      go_wp2_with fail
      with_reducible refine HS.out.mono ?_
      rintro e w4 ⟨rfl, hu, hb4⟩
      have U4 := Lib.hid hu
      have Q4 := Lib.hid (Q.out.trans hb4)
      clear hu hb4
      go_wp2_with fail
      go_ret
      exact ⟨a, c, rfl, U4.out, Q4.out⟩
    · obtain ⟨hm1, hm2⟩ := left_new hmem
      obtain ⟨hb7, hkey⟩ := tbl_born e hm1
      have hit3 : w3.heap[I]? = some (.mapIter (some b) 7 sn.toArray c0) := by rcases hw3 with rfl | rfl <;> exact hit
      have hbm3 : w3.heap[b]? = some (.map tblE 7) := by rcases hw3 with rfl | rfl <;> exact hbm
      have ho3 : OwnK .i64 w3 w.heap.size 3 a sn.length c (sn.map kd) := by rcases hw3 with rfl | rfl <;> exact ho
      have hq3 : Below w.heap.size w w3 := by
        rcases hw3 with rfl | rfl
        · exact hq
        · exact hq.drew
      have I4 : Hid ((setBlock w3 I (.mapIter (some b) 7 (sn.toArray.push e.born) 7)).heap[I]? = some (.mapIter (some b) 7 (sn.toArray.push e.born) 7)) := by
        show (w3.heap.setIfInBounds I _)[I]? = _
        rw [Array.getElem?_setIfInBounds_self_of_lt (Array.getElem?_eq_some_iff.1 hit3).1]
      have B4 : Hid ((setBlock w3 I (.mapIter (some b) 7 (sn.toArray.push e.born) 7)).heap[b]? = some (.map tblE 7)) := by
        show (w3.heap.setIfInBounds I _)[b]? = _
        rw [Array.getElem?_setIfInBounds_ne (Ne.symm HNE.out)]
        exact hbm3
      have O4 := Lib.hid (ownK_setBlock ho3 (.mapIter (some b) 7 (sn.toArray.push e.born) 7) hit3)
      have Q4 := Lib.hid (below_setBlock hq3 HGE.out (.mapIter (some b) 7 (sn.toArray.push e.born) 7))
      have hen := run_entry_at (P := Tryd.prog) _ I b 7 sn.toArray tblE 7 e I4.out B4.out hm1 tbl_nodup
      have hpush : sn.toArray.push e.born = (sn ++ [e.born]).toArray := by simp
      have hnd4 : (sn ++ [e.born]).Nodup := by
        rw [List.nodup_append]
        refine ⟨hnd, by simp, fun x hx y hy hxy => ?_⟩
        simp at hy
        subst hy
        subst hxy
        exact hm2 hx
      have hall4 : ∀ x ∈ sn ++ [e.born], x < 7 := by
        intro x hx
        rcases List.mem_append.1 hx with hx | hx
        · exact hall x hx
        · simp at hx
          subst hx
          exact hb7
      have hle4 := nodup_le 7 _ hnd4 hall4
      have hl4 : (sn ++ [e.born]).length = sn.length + 1 := by simp
      have HND := Lib.hid hnd4
      have HALL := Lib.hid hall4
      have HL4 := Lib.hid hl4
      rw [hl4] at hle4
      have HMP : Hid ((sn ++ [e.born]).map kd = sn.map kd ++ [kd e.born]) := by rw [Hid, List.map_append]; rfl
      rw [hkey] at hrun hen
      rw [hpush] at I4 B4 O4 Q4 hrun hen
      generalize e.val = V at *
      generalize kd e.born = x at *
      generalize sn ++ [e.born] = sn2 at *
      generalize sn.map kd = K0 at *
      generalize setBlock w3 I (.mapIter (some b) 7 sn2.toArray 7) = w4 at *
      have hnx := fun ty => (show (Instr.next (.pointer (some ⟨I, 0, none⟩)) false ty).run Tryd.prog wr = .ok (.tuple #[.bool true, .int .i64 x, V]) w4 from hrun)
      have hsz4 := Q4.out.size
      obtain ⟨N, hN⟩ : ∃ N, sn.length = N := ⟨_, rfl⟩
      rw [hN] at O4 hle4 HL4 ⊢
      clear hmem hm1 hm2 hb7 hkey hit3 hbm3 ho3 hq3 hw3 hpush hnd4 hall4 hl4 hrun ho hit hbm hnd hall hq hc0
      go_wp2_with (at_builtin; go_must (refine wpList_appK _ rfl _ _ 38 rfl w.heap.size 3 i0 Tryd.underlying38 hi hz0 hz1 (by rw [hz2]; omega) a N c K0 rfl (O4.out.alloc _) _ 1 1 [x] rfl (uk_lit_at rfl rfl rfl (by unfold maxLen; omega)) (by omega) (by simp; omega) ?_))
      intro a5 c5 w5 ho5 hg5
      have OA := Lib.hid (O4.out.alloc (.cells #[.int .i64 (x : Int)] 3))
      have I5 := Lib.hid (obj_grown hg5 OA.out ((Below.heap_alloc w4 _ I (Array.getElem?_eq_some_iff.1 I4.out).1).trans I4.out) (by intro _ _ _ h; cases h))
      have B5 := Lib.hid (obj_grown hg5 OA.out ((Below.heap_alloc w4 _ b (Array.getElem?_eq_some_iff.1 B4.out).1).trans B4.out) (by intro _ _ _ h; cases h))
      have Q5 := Lib.hid ((bal Q4.out (.cells #[.int .i64 (x : Int)] 3)).trans (OwnK.app_below OA.out hg5 (Nat.le_refl _) (by simp; omega)))
      have O5 := Lib.hid ho5
      clear ho5 hg5
      go_wp2_with fail
      go_roundw
      case rel => exact ⟨a5, c5, sn2, 7, by rw [HL4.out], by rw [HL4.out, HMP.out]; exact O5.out, I5.out, Nat.le_refl _, B5.out, HND.out, HALL.out, Q5.out⟩
      case measure => show 7 - (N + 1) < 7 - N; omega
end Go.Proofs.YtkmpmphabohkkaaDoor
