/-
  Contracts of Parse, of the program and of the reference (Within).
-/
import Derived.Test.YtgccjdhkpgmnoaaTreeParse
import Derived.Test.YtgccjdhkpgmnoaaTreeRead
import Derived.Test.YtgccjdhkpgmnoaaTreeMath2
namespace Go.Proofs.Ytgccjdhkpgmnoaa
open Go.RowKit

/-- what a reader of a whole input leaves -/
def ParsePost (w : World) (r : RT) (e : Ending) (w' : World) : Prop :=
  match r with
  | .ok t _ => ∃ cs, e = .returned (.tuple #[.agg cs.toArray, erV 0 0]) ∧ NdCs w' (fun b => w.heap.size ≤ b) cs t ∧ Below w.heap.size w w'
  | .err c o => e = .returned (.tuple #[zeroN, erV c o]) ∧ Below w.heap.size w w'

theorem read_weak {w W : World} {r : RT} {p : Nat} {e : Ending} {w' : World} (h : ReadPost W r p e w') (hW : w.heap.size + 2 ≤ W.heap.size) :
    match r with
    | .ok t s => ∃ cs, e = .returned (.tuple #[.agg cs.toArray, .int .i64 (p + s : Nat), erV 0 0]) ∧ NdCs w' (fun b => w.heap.size + 2 ≤ b) cs t ∧ Below W.heap.size W w'
    | .err c o => e = .returned (.tuple #[zeroN, .int .i64 0, erV c (p + o)]) ∧ Below W.heap.size W w' := by
  cases r with
  | ok t s =>
    obtain ⟨cs, h1, h2, h3⟩ := h
    exact ⟨cs, h1, h2.weak fun b _ hb => by omega, h3⟩
  | err c o => exact h

set_option maxRecDepth 100000 in
set_option maxHeartbeats 2000000 in
theorem parseAt_empty {w : World} {a : Option Addr} {c : Nat} (hx : Bs w a 0 c []) :
    Calls Try.prog 28 #[.slice a 0 c, .int .i64 0, .int .i64 0] w (ReadPost w (rdT 16 []) 0) := by
  have hr : rdT 16 [] = .err 1 0 := rfl
  rw [hr]
  have hc := hx.2.2.1
  have HH := Lib.hid (fun W (a : Option Addr) (c : Nat) (h : c ≤ maxLen) => readHeader_any (w := W) (a := a) (n := 0) (c := c) (l := []) ⟨rfl, Nat.zero_le _, h, fun h => absurd h (by omega)⟩)
  have HF := Lib.hid failure_any
  have hh : rdHead [] = ⟨0, 0, false, 0, 0, 1, 0⟩ := rfl
  rw [hh] at HH
  unfold hdV erV at HH
  simp only at HH
  clear hx hr hh
  by_cases hc0 : c = 0
  · subst hc0
    cases a with
    | none =>
      go_enter Try.func28, Try.ntmps28
      go_wp2_with fail
      refine (HH.out _ _ _ (by omega)).mono ?_
      rintro e w2 ⟨rfl, q⟩
      have Z2 := Lib.hid (((Blk.new w 26 #[.int .i64 0, .int .i64 0, .bool false, .slice none 0 0, .slice none 0 0]).alloc (.cells #[.int .i64 0, .int .i64 0] 29)).below q (by simp; omega))
      have Z3 : Hid (Blk w2 (w.heap.size + 1) 29 #[.int .i64 0, .int .i64 0]) := by show Blk _ _ _ _; simpa using (((Blk.new (w.alloc (.cells #[.int .i64 0, .int .i64 0, .bool false, .slice none 0 0, .slice none 0 0] 26)) 29 #[.int .i64 0, .int .i64 0])).below q (by simp))
      have BB := Lib.hid (bthen (bal (bal (Below.refl _ w) _) _) q)
      clear q HH
      go_wp2_with fail
      refine (HF.out _ _ _).mono ?_
      rintro e w3 ⟨rfl, q⟩
      have Y2 := Lib.hid (((Z2.out.alloc _).alloc _).below q (by have := Z2.out.lt; simp; omega))
      have Y3 := Lib.hid (((Z3.out.alloc _).alloc _).below q (by have := Z3.out.lt; simp; omega))
      have BC := Lib.hid (bthen (bal (bal BB.out _) _) q)
      obtain ⟨z20, z21, z22, z23, z24, hl2⟩ := five Y2.out
      have z30 := Y3.out.cell 0
      have z31 := Y3.out.cell 1
      have hl3 := Y3.out.lt
      have f2 := fun i => Y2.out.frozen i
      have f3 := fun i => Y3.out.frozen i
      simp only [List.getElem?_toArray, List.getElem?_cons_zero, List.getElem?_cons_succ] at z30 z31
      clear q
      go_wp2_with fail
      exact bodyPost_ret (v := .tuple #[zeroN, .int .i64 0, .agg #[.int .i64 1, .int .i64 0]]) (by simp [results, Try.results28, go_sem, zeroN, z20, z21, z22, z23, z24, z30, z31]) rfl ⟨rfl, by repeat (first | with_reducible exact BC.out | with_reducible refine bal ?_ _ | with_reducible refine below_at ?_ _ _ | with_reducible refine below_at1 ?_ _ _ | with_reducible refine below_draw ?_)⟩
    | some x =>
      go_enter Try.func28, Try.ntmps28
      go_wp2_with fail
      refine (HH.out _ _ _ (by omega)).mono ?_
      rintro e w2 ⟨rfl, q⟩
      have Z2 := Lib.hid (((Blk.new w 26 #[.int .i64 0, .int .i64 0, .bool false, .slice none 0 0, .slice none 0 0]).alloc (.cells #[.int .i64 0, .int .i64 0] 29)).below q (by simp; omega))
      have Z3 : Hid (Blk w2 (w.heap.size + 1) 29 #[.int .i64 0, .int .i64 0]) := by show Blk _ _ _ _; simpa using (((Blk.new (w.alloc (.cells #[.int .i64 0, .int .i64 0, .bool false, .slice none 0 0, .slice none 0 0] 26)) 29 #[.int .i64 0, .int .i64 0])).below q (by simp))
      have BB := Lib.hid (bthen (bal (bal (Below.refl _ w) _) _) q)
      clear q HH
      go_wp2_with fail
      refine (HF.out _ _ _).mono ?_
      rintro e w3 ⟨rfl, q⟩
      have Y2 := Lib.hid (((Z2.out.alloc _).alloc _).below q (by have := Z2.out.lt; simp; omega))
      have Y3 := Lib.hid (((Z3.out.alloc _).alloc _).below q (by have := Z3.out.lt; simp; omega))
      have BC := Lib.hid (bthen (bal (bal BB.out _) _) q)
      obtain ⟨z20, z21, z22, z23, z24, hl2⟩ := five Y2.out
      have z30 := Y3.out.cell 0
      have z31 := Y3.out.cell 1
      have hl3 := Y3.out.lt
      have f2 := fun i => Y2.out.frozen i
      have f3 := fun i => Y3.out.frozen i
      simp only [List.getElem?_toArray, List.getElem?_cons_zero, List.getElem?_cons_succ] at z30 z31
      clear q
      go_wp2_with fail
      exact bodyPost_ret (v := .tuple #[zeroN, .int .i64 0, .agg #[.int .i64 1, .int .i64 0]]) (by simp [results, Try.results28, go_sem, zeroN, z20, z21, z22, z23, z24, z30, z31]) rfl ⟨rfl, by repeat (first | with_reducible exact BC.out | with_reducible refine bal ?_ _ | with_reducible refine below_at ?_ _ _ | with_reducible refine below_at1 ?_ _ _ | with_reducible refine below_draw ?_)⟩
  · cases a with
    | none =>
      go_enter Try.func28, Try.ntmps28
      go_wp2_with fail
      refine (HH.out _ _ _ (by omega)).mono ?_
      rintro e w2 ⟨rfl, q⟩
      have Z2 := Lib.hid (((Blk.new w 26 #[.int .i64 0, .int .i64 0, .bool false, .slice none 0 0, .slice none 0 0]).alloc (.cells #[.int .i64 0, .int .i64 0] 29)).below q (by simp; omega))
      have Z3 : Hid (Blk w2 (w.heap.size + 1) 29 #[.int .i64 0, .int .i64 0]) := by show Blk _ _ _ _; simpa using (((Blk.new (w.alloc (.cells #[.int .i64 0, .int .i64 0, .bool false, .slice none 0 0, .slice none 0 0] 26)) 29 #[.int .i64 0, .int .i64 0])).below q (by simp))
      have BB := Lib.hid (bthen (bal (bal (Below.refl _ w) _) _) q)
      clear q HH
      go_wp2_with fail
      refine (HF.out _ _ _).mono ?_
      rintro e w3 ⟨rfl, q⟩
      have Y2 := Lib.hid (((Z2.out.alloc _).alloc _).below q (by have := Z2.out.lt; simp; omega))
      have Y3 := Lib.hid (((Z3.out.alloc _).alloc _).below q (by have := Z3.out.lt; simp; omega))
      have BC := Lib.hid (bthen (bal (bal BB.out _) _) q)
      obtain ⟨z20, z21, z22, z23, z24, hl2⟩ := five Y2.out
      have z30 := Y3.out.cell 0
      have z31 := Y3.out.cell 1
      have hl3 := Y3.out.lt
      have f2 := fun i => Y2.out.frozen i
      have f3 := fun i => Y3.out.frozen i
      simp only [List.getElem?_toArray, List.getElem?_cons_zero, List.getElem?_cons_succ] at z30 z31
      clear q
      go_wp2_with fail
      exact bodyPost_ret (v := .tuple #[zeroN, .int .i64 0, .agg #[.int .i64 1, .int .i64 0]]) (by simp [results, Try.results28, go_sem, zeroN, z20, z21, z22, z23, z24, z30, z31]) rfl ⟨rfl, by repeat (first | with_reducible exact BC.out | with_reducible refine bal ?_ _ | with_reducible refine below_at ?_ _ _ | with_reducible refine below_at1 ?_ _ _ | with_reducible refine below_draw ?_)⟩
    | some x =>
      go_enter Try.func28, Try.ntmps28
      go_wp2_with fail
      refine (HH.out _ _ _ (by omega)).mono ?_
      rintro e w2 ⟨rfl, q⟩
      have Z2 := Lib.hid (((Blk.new w 26 #[.int .i64 0, .int .i64 0, .bool false, .slice none 0 0, .slice none 0 0]).alloc (.cells #[.int .i64 0, .int .i64 0] 29)).below q (by simp; omega))
      have Z3 : Hid (Blk w2 (w.heap.size + 1) 29 #[.int .i64 0, .int .i64 0]) := by show Blk _ _ _ _; simpa using (((Blk.new (w.alloc (.cells #[.int .i64 0, .int .i64 0, .bool false, .slice none 0 0, .slice none 0 0] 26)) 29 #[.int .i64 0, .int .i64 0])).below q (by simp))
      have BB := Lib.hid (bthen (bal (bal (Below.refl _ w) _) _) q)
      clear q HH
      go_wp2_with fail
      refine (HF.out _ _ _).mono ?_
      rintro e w3 ⟨rfl, q⟩
      have Y2 := Lib.hid (((Z2.out.alloc _).alloc _).below q (by have := Z2.out.lt; simp; omega))
      have Y3 := Lib.hid (((Z3.out.alloc _).alloc _).below q (by have := Z3.out.lt; simp; omega))
      have BC := Lib.hid (bthen (bal (bal BB.out _) _) q)
      obtain ⟨z20, z21, z22, z23, z24, hl2⟩ := five Y2.out
      have z30 := Y3.out.cell 0
      have z31 := Y3.out.cell 1
      have hl3 := Y3.out.lt
      have f2 := fun i => Y2.out.frozen i
      have f3 := fun i => Y3.out.frozen i
      simp only [List.getElem?_toArray, List.getElem?_cons_zero, List.getElem?_cons_succ] at z30 z31
      clear q
      go_wp2_with fail
      exact bodyPost_ret (v := .tuple #[zeroN, .int .i64 0, .agg #[.int .i64 1, .int .i64 0]]) (by simp [results, Try.results28, go_sem, zeroN, z20, z21, z22, z23, z24, z30, z31]) rfl ⟨rfl, by repeat (first | with_reducible exact BC.out | with_reducible refine bal ?_ _ | with_reducible refine below_at ?_ _ _ | with_reducible refine below_at1 ?_ _ _ | with_reducible refine below_draw ?_)⟩

set_option maxRecDepth 100000 in
set_option maxHeartbeats 2000000 in
theorem parse_any {w : World} {a : Option Addr} {n c : Nat} {l : List UInt8} (hx : Bs w a n c l) (hn : n ≤ 100000) :
    Calls Try.prog 11 #[.slice a n c] w (ParsePost w (parseT 16 l)) := by
  have hll := hx.len
  have HI : Hid (∀ W, Below w.heap.size w W → Calls Try.prog 28 #[.slice a n c, .int .i64 0, .int .i64 0] W (ReadPost W (rdT 16 l) 0)) := fun W h => by
    rcases Nat.eq_zero_or_pos n with h0 | h0
    · subst h0
      have : l = [] := List.eq_nil_of_length_eq_zero hll
      subst this
      exact parseAt_empty (hx.below h)
    · have := parseAt_any 16 W a n c l 0 0 rfl hn h0 (hx.below h)
      rw [List.drop_zero] at this
      exact this
  have hlim := rdT_lim 16 l
  have hnc := hx.2.1
  rw [hll] at hlim
  obtain ⟨D, hD⟩ : ∃ D : Nat, Hid (16 = D) := ⟨16, Lib.hid rfl⟩
  rw [hD.out] at HI hlim ⊢
  clear hx
  rcases hr : rdT D l with ⟨t, s⟩ | ⟨C, O⟩
  · rw [hr] at HI hlim
    obtain ⟨hs1, hs2, _, _⟩ := hlim
    unfold ReadPost erV at HI
    simp only [Nat.zero_add] at HI
    have hsb : (s : Int) ≤ 100000 := by omega
    by_cases hs : s < n
    · have hp : parseT D l = .err 2 s := by unfold parseT; rw [hr]; simp only []; rw [if_pos (by omega)]
      rw [hp]
      have hsi : (s : Int) < n := by omega
      clear hr hp
      go_enter Try.func11, Try.ntmps11
      go_wp2_with fail
      refine (HI.out _ (bal (bal (Below.refl _ w) _) _)).mono ?_
      rintro e w2 ⟨cs, rfl, hnd, q⟩
      cases t with
      | node c' n' k' l' ks' =>
      obtain ⟨a', m', d', ka', kn', kc', rfl, _⟩ := hnd.parts
      have Z2 := Lib.hid (((Blk.new w 26 #[.int .i64 0, .int .i64 0, .bool false, .slice none 0 0, .slice none 0 0]).alloc (.cells #[.int .i64 0, .int .i64 0] 29)).below q (by simp; omega))
      have Z3 : Hid (Blk w2 (w.heap.size + 1) 29 #[.int .i64 0, .int .i64 0]) := by show Blk _ _ _ _; simpa using (((Blk.new (w.alloc (.cells #[.int .i64 0, .int .i64 0, .bool false, .slice none 0 0, .slice none 0 0] 26)) 29 #[.int .i64 0, .int .i64 0])).below q (by simp))
      have BB := Lib.hid (bthen (bal (bal (Below.refl _ w) _) _) q)
      clear q hnd
      obtain ⟨z20, z21, z22, z23, z24, hl2⟩ := five Z2.out
      have z30 := Z3.out.cell 0
      have z31 := Z3.out.cell 1
      have hl3 := Z3.out.lt
      have f2 := fun i => Z2.out.frozen i
      have f3 := fun i => Z3.out.frozen i
      simp only [List.getElem?_toArray, List.getElem?_cons_zero, List.getElem?_cons_succ] at z30 z31
      go_wp2_with fail
      refine bodyPost_ret (v := .tuple #[zeroN, .agg #[.int .i64 2, .int .i64 s]]) (by simp [results, Try.results11, go_sem, zeroN, z20, z21, z22, z23, z24, z30, z31, hl2, hl3]) rfl ?_
      exact ⟨rfl, by repeat (first | with_reducible exact Q4.out | with_reducible exact BB.out | with_reducible refine bal ?_ _ | with_reducible refine below_at ?_ _ _ | with_reducible refine below_at1 ?_ _ _ | with_reducible refine below_draw ?_)⟩
    · have hp : parseT D l = .ok t s := by unfold parseT; rw [hr]; simp only []; rw [if_neg (by omega)]
      rw [hp]
      have hsi : (n : Int) ≤ s := by omega
      have hsn : s = n := by omega
      subst hsn
      clear hr hp
      go_enter Try.func11, Try.ntmps11
      go_wp2_with fail
      refine (HI.out _ (bal (bal (Below.refl _ w) _) _)).mono ?_
      rintro e w2 ⟨cs, rfl, hnd, q⟩
      cases t with
      | node c' n' k' l' ks' =>
      obtain ⟨a', m', d', ka', kn', kc', rfl, _⟩ := hnd.parts
      have Z2 := Lib.hid (((Blk.new w 26 #[.int .i64 0, .int .i64 0, .bool false, .slice none 0 0, .slice none 0 0]).alloc (.cells #[.int .i64 0, .int .i64 0] 29)).below q (by simp; omega))
      have Z3 : Hid (Blk w2 (w.heap.size + 1) 29 #[.int .i64 0, .int .i64 0]) := by show Blk _ _ _ _; simpa using (((Blk.new (w.alloc (.cells #[.int .i64 0, .int .i64 0, .bool false, .slice none 0 0, .slice none 0 0] 26)) 29 #[.int .i64 0, .int .i64 0])).below q (by simp))
      have BB := Lib.hid (bthen (bal (bal (Below.refl _ w) _) _) q)
      have ND0 := Lib.hid hnd
      clear q hnd
      go_wp2_with fail
      have G4 := Lib.hid ((Z2.out.alloc (.cells #[.int .i64 c', .int .i64 n', .bool k', .slice a' m' d', .slice ka' kn' kc'] 26)).alloc (.cells #[.int .i64 0, .int .i64 0] 29))
      have E4 := Lib.hid ((Z3.out.alloc (.cells #[.int .i64 c', .int .i64 n', .bool k', .slice a' m' d', .slice ka' kn' kc'] 26)).alloc (.cells #[.int .i64 0, .int .i64 0] 29))
      have T4 := Lib.hid ((Blk.new w2 26 #[.int .i64 c', .int .i64 n', .bool k', .slice a' m' d', .slice ka' kn' kc']).alloc (.cells #[.int .i64 0, .int .i64 0] 29))
      have R4 : Hid (Blk ((w2.alloc (.cells #[.int .i64 c', .int .i64 n', .bool k', .slice a' m' d', .slice ka' kn' kc'] 26)).alloc (.cells #[.int .i64 0, .int .i64 0] 29)) (w2.heap.size + 1) 29 #[.int .i64 0, .int .i64 0]) := by
        have := Blk.new (w2.alloc (.cells #[.int .i64 c', .int .i64 n', .bool k', .slice a' m' d', .slice ka' kn' kc'] 26)) 29 #[.int .i64 0, .int .i64 0]
        show Blk _ _ _ _
        simpa using this
      have Q4 := Lib.hid (bal (bal BB.out (.cells #[.int .i64 c', .int .i64 n', .bool k', .slice a' m' d', .slice ka' kn' kc'] 26)) (.cells #[.int .i64 0, .int .i64 0] 29))
      have ND := Lib.hid (ND0.out.below (bal (bal (Below.refl _ w2) (.cells #[.int .i64 c', .int .i64 n', .bool k', .slice a' m' d', .slice ka' kn' kc'] 26)) (.cells #[.int .i64 0, .int .i64 0] 29)))
      have hG1 := Z3.out.lt
      generalize (w2.alloc (.cells #[.int .i64 c', .int .i64 n', .bool k', .slice a' m' d', .slice ka' kn' kc'] 26)).alloc (.cells #[.int .i64 0, .int .i64 0] 29) = w4 at *
      obtain ⟨RB, hRB⟩ : ∃ RB, Hid (w2.heap.size + 1 = RB) := ⟨_, rfl⟩
      obtain ⟨TB, hTB⟩ : ∃ TB, Hid (w2.heap.size = TB) := ⟨_, rfl⟩
      have hne1 : TB ≠ w.heap.size := by have := hTB.out; omega
      have hne2 : TB ≠ w.heap.size + 1 := by have := hTB.out; omega
      have hne3 : RB ≠ w.heap.size := by have := hRB.out; omega
      have hne4 : RB ≠ w.heap.size + 1 := by have := hRB.out; omega
      rw [hRB.out] at R4 ⊢
      rw [hTB.out] at T4 ⊢
      clear Z2 Z3 BB hG1
      obtain ⟨t0, t1, t2, t3, t4, tl⟩ := five T4.out
      obtain ⟨z20, z21, z22, z23, z24, hl2⟩ := five G4.out
      have z30 := E4.out.cell 0
      have z31 := E4.out.cell 1
      have r0 := R4.out.cell 0
      have r1 := R4.out.cell 1
      have rl := R4.out.lt
      have f2 := fun i => G4.out.frozen i
      have f3 := fun i => E4.out.frozen i
      have hl3 := E4.out.lt
      simp only [List.getElem?_toArray, List.getElem?_cons_zero, List.getElem?_cons_succ] at z30 z31 r0 r1
      clear hl2 hl3
      go_region
      go_wp2_with fail
      refine bodyPost_ret (v := .tuple #[.agg #[.int .i64 c', .int .i64 n', .bool k', .slice a' m' d', .slice ka' kn' kc'], .agg #[.int .i64 0, .int .i64 0]]) (by simp [results, Try.results11, go_sem, z20, z21, z22, z23, z24, z30, z31]) rfl ?_
      have hS := read_stored (B := w.heap.size) (u0 := .int .i64 c') (u1 := .int .i64 n') (u2 := .bool k') (u3 := .slice a' m' d') (u4 := .slice ka' kn' kc') (u5 := .int .i64 0) (u6 := .int .i64 0) (ND.out.weak fun b _ hb => by simp at hb; omega) Q4.out
      exact ⟨_, rfl, hS.1.drew, below_drewN hS.2 1⟩
  · rw [hr] at HI hlim
    obtain ⟨ho, hc1⟩ := hlim
    unfold ReadPost erV zeroN at HI
    simp only [Nat.zero_add] at HI
    have hp : parseT D l = .err C O := by unfold parseT; rw [hr]
    rw [hp]
    have hC : ((C : Int) == 0) = false := by simp; omega
    have hC2 : ((C : Int) != 0) = true := by simp; omega
    clear hr hp
    go_enter Try.func11, Try.ntmps11
    go_wp2_with fail
    refine (HI.out _ (bal (bal (Below.refl _ w) _) _)).mono ?_
    rintro e w2 ⟨rfl, q⟩
    have Z2 := Lib.hid (((Blk.new w 26 #[.int .i64 0, .int .i64 0, .bool false, .slice none 0 0, .slice none 0 0]).alloc (.cells #[.int .i64 0, .int .i64 0] 29)).below q (by simp; omega))
    have Z3 : Hid (Blk w2 (w.heap.size + 1) 29 #[.int .i64 0, .int .i64 0]) := by show Blk _ _ _ _; simpa using (((Blk.new (w.alloc (.cells #[.int .i64 0, .int .i64 0, .bool false, .slice none 0 0, .slice none 0 0] 26)) 29 #[.int .i64 0, .int .i64 0])).below q (by simp))
    have BB := Lib.hid (bthen (bal (bal (Below.refl _ w) _) _) q)
    clear q
    go_wp2_with fail
    have G4 := Lib.hid ((Z2.out.alloc (.cells #[.int .i64 0, .int .i64 0, .bool false, .slice none 0 0, .slice none 0 0] 26)).alloc (.cells #[.int .i64 C, .int .i64 O] 29))
    have E4 := Lib.hid ((Z3.out.alloc (.cells #[.int .i64 0, .int .i64 0, .bool false, .slice none 0 0, .slice none 0 0] 26)).alloc (.cells #[.int .i64 C, .int .i64 O] 29))
    have T4 := Lib.hid ((Blk.new w2 26 #[.int .i64 0, .int .i64 0, .bool false, .slice none 0 0, .slice none 0 0]).alloc (.cells #[.int .i64 C, .int .i64 O] 29))
    have R4 : Hid (Blk ((w2.alloc (.cells #[.int .i64 0, .int .i64 0, .bool false, .slice none 0 0, .slice none 0 0] 26)).alloc (.cells #[.int .i64 C, .int .i64 O] 29)) (w2.heap.size + 1) 29 #[.int .i64 C, .int .i64 O]) := by
      have := Blk.new (w2.alloc (.cells #[.int .i64 0, .int .i64 0, .bool false, .slice none 0 0, .slice none 0 0] 26)) 29 #[.int .i64 C, .int .i64 O]
      show Blk _ _ _ _
      simpa using this
    have Q4 := Lib.hid (bal (bal BB.out (.cells #[.int .i64 0, .int .i64 0, .bool false, .slice none 0 0, .slice none 0 0] 26)) (.cells #[.int .i64 C, .int .i64 O] 29))
    have hG1 := Z3.out.lt
    generalize (w2.alloc (.cells #[.int .i64 0, .int .i64 0, .bool false, .slice none 0 0, .slice none 0 0] 26)).alloc (.cells #[.int .i64 C, .int .i64 O] 29) = w4 at *
    obtain ⟨RB, hRB⟩ : ∃ RB, Hid (w2.heap.size + 1 = RB) := ⟨_, rfl⟩
    obtain ⟨TB, hTB⟩ : ∃ TB, Hid (w2.heap.size = TB) := ⟨_, rfl⟩
    have hne1 : TB ≠ w.heap.size := by have := hTB.out; omega
    have hne2 : TB ≠ w.heap.size + 1 := by have := hTB.out; omega
    have hne3 : RB ≠ w.heap.size := by have := hRB.out; omega
    have hne4 : RB ≠ w.heap.size + 1 := by have := hRB.out; omega
    rw [hRB.out] at R4 ⊢
    rw [hTB.out] at T4 ⊢
    clear Z2 Z3 BB hG1
    obtain ⟨t0, t1, t2, t3, t4, tl⟩ := five T4.out
    obtain ⟨z20, z21, z22, z23, z24, hl2⟩ := five G4.out
    have z30 := E4.out.cell 0
    have z31 := E4.out.cell 1
    have r0 := R4.out.cell 0
    have r1 := R4.out.cell 1
    have rl := R4.out.lt
    have f2 := fun i => G4.out.frozen i
    have f3 := fun i => E4.out.frozen i
    have hl3 := E4.out.lt
    simp only [List.getElem?_toArray, List.getElem?_cons_zero, List.getElem?_cons_succ] at z30 z31 r0 r1
    clear hl2 hl3
    go_region
    go_wp2_with fail
    refine bodyPost_ret (v := .tuple #[zeroN, .agg #[.int .i64 C, .int .i64 O]]) (by simp [results, Try.results11, go_sem, zeroN, z20, z21, z22, z23, z24, z30, z31]) rfl ?_
    exact ⟨rfl, by repeat (first | with_reducible exact Q4.out | with_reducible exact BB.out | with_reducible refine bal ?_ _ | with_reducible refine below_at ?_ _ _ | with_reducible refine below_at1 ?_ _ _ | with_reducible refine below_draw ?_)⟩

set_option maxRecDepth 100000 in
set_option maxHeartbeats 2000000 in
theorem ref_within_any {w : World} {a : Option Addr} {n c D : Nat} {l : List UInt8} (hx : Bs w a n c l) (hn : n ≤ 100000) (hD : D ≤ 1000) :
    Calls Try.prog 29 #[.slice a n c, .int .i64 D] w (ParsePost w (parseT D l)) := by
  have hll := hx.len
  have HI := Lib.hid (fun W (h : Below w.heap.size w W) => ref_read_any D W a n c l hD hn (hx.below h))
  have hlim := rdT_lim D l
  have hnc := hx.2.1
  rw [hll] at hlim
  clear hx
  rcases hr : rdT D l with ⟨t, s⟩ | ⟨C, O⟩
  · rw [hr] at HI hlim
    obtain ⟨hs1, hs2, _, _⟩ := hlim
    unfold ReadPost erV at HI
    simp only [Nat.zero_add] at HI
    have hsb : (s : Int) ≤ 100000 := by omega
    by_cases hs : s < n
    · have hp : parseT D l = .err 2 s := by unfold parseT; rw [hr]; simp only []; rw [if_pos (by omega)]
      rw [hp]
      have hsi : (s : Int) < n := by omega
      clear hr hp
      go_enter Try.func29, Try.ntmps29
      go_wp2_with fail
      refine (HI.out _ (bal (bal (Below.refl _ w) _) _)).mono ?_
      rintro e w2 ⟨cs, rfl, hnd, q⟩
      cases t with
      | node c' n' k' l' ks' =>
      obtain ⟨a', m', d', ka', kn', kc', rfl, _⟩ := hnd.parts
      have Z2 := Lib.hid (((Blk.new w 26 #[.int .i64 0, .int .i64 0, .bool false, .slice none 0 0, .slice none 0 0]).alloc (.cells #[.int .i64 0, .int .i64 0] 29)).below q (by simp; omega))
      have Z3 : Hid (Blk w2 (w.heap.size + 1) 29 #[.int .i64 0, .int .i64 0]) := by show Blk _ _ _ _; simpa using (((Blk.new (w.alloc (.cells #[.int .i64 0, .int .i64 0, .bool false, .slice none 0 0, .slice none 0 0] 26)) 29 #[.int .i64 0, .int .i64 0])).below q (by simp))
      have BB := Lib.hid (bthen (bal (bal (Below.refl _ w) _) _) q)
      clear q hnd
      obtain ⟨z20, z21, z22, z23, z24, hl2⟩ := five Z2.out
      have z30 := Z3.out.cell 0
      have z31 := Z3.out.cell 1
      have hl3 := Z3.out.lt
      have f2 := fun i => Z2.out.frozen i
      have f3 := fun i => Z3.out.frozen i
      simp only [List.getElem?_toArray, List.getElem?_cons_zero, List.getElem?_cons_succ] at z30 z31
      go_wp2_with fail
      refine bodyPost_ret (v := .tuple #[zeroN, .agg #[.int .i64 2, .int .i64 s]]) (by simp [results, Try.results29, go_sem, zeroN, z20, z21, z22, z23, z24, z30, z31, hl2, hl3]) rfl ?_
      exact ⟨rfl, by repeat (first | with_reducible exact Q4.out | with_reducible exact BB.out | with_reducible refine bal ?_ _ | with_reducible refine below_at ?_ _ _ | with_reducible refine below_at1 ?_ _ _ | with_reducible refine below_draw ?_)⟩
    · have hp : parseT D l = .ok t s := by unfold parseT; rw [hr]; simp only []; rw [if_neg (by omega)]
      rw [hp]
      have hsi : (n : Int) ≤ s := by omega
      have hsn : s = n := by omega
      subst hsn
      clear hr hp
      go_enter Try.func29, Try.ntmps29
      go_wp2_with fail
      refine (HI.out _ (bal (bal (Below.refl _ w) _) _)).mono ?_
      rintro e w2 ⟨cs, rfl, hnd, q⟩
      cases t with
      | node c' n' k' l' ks' =>
      obtain ⟨a', m', d', ka', kn', kc', rfl, _⟩ := hnd.parts
      have Z2 := Lib.hid (((Blk.new w 26 #[.int .i64 0, .int .i64 0, .bool false, .slice none 0 0, .slice none 0 0]).alloc (.cells #[.int .i64 0, .int .i64 0] 29)).below q (by simp; omega))
      have Z3 : Hid (Blk w2 (w.heap.size + 1) 29 #[.int .i64 0, .int .i64 0]) := by show Blk _ _ _ _; simpa using (((Blk.new (w.alloc (.cells #[.int .i64 0, .int .i64 0, .bool false, .slice none 0 0, .slice none 0 0] 26)) 29 #[.int .i64 0, .int .i64 0])).below q (by simp))
      have BB := Lib.hid (bthen (bal (bal (Below.refl _ w) _) _) q)
      have ND0 := Lib.hid hnd
      clear q hnd
      go_wp2_with fail
      have G4 := Lib.hid ((Z2.out.alloc (.cells #[.int .i64 c', .int .i64 n', .bool k', .slice a' m' d', .slice ka' kn' kc'] 26)).alloc (.cells #[.int .i64 0, .int .i64 0] 29))
      have E4 := Lib.hid ((Z3.out.alloc (.cells #[.int .i64 c', .int .i64 n', .bool k', .slice a' m' d', .slice ka' kn' kc'] 26)).alloc (.cells #[.int .i64 0, .int .i64 0] 29))
      have T4 := Lib.hid ((Blk.new w2 26 #[.int .i64 c', .int .i64 n', .bool k', .slice a' m' d', .slice ka' kn' kc']).alloc (.cells #[.int .i64 0, .int .i64 0] 29))
      have R4 : Hid (Blk ((w2.alloc (.cells #[.int .i64 c', .int .i64 n', .bool k', .slice a' m' d', .slice ka' kn' kc'] 26)).alloc (.cells #[.int .i64 0, .int .i64 0] 29)) (w2.heap.size + 1) 29 #[.int .i64 0, .int .i64 0]) := by
        have := Blk.new (w2.alloc (.cells #[.int .i64 c', .int .i64 n', .bool k', .slice a' m' d', .slice ka' kn' kc'] 26)) 29 #[.int .i64 0, .int .i64 0]
        show Blk _ _ _ _
        simpa using this
      have Q4 := Lib.hid (bal (bal BB.out (.cells #[.int .i64 c', .int .i64 n', .bool k', .slice a' m' d', .slice ka' kn' kc'] 26)) (.cells #[.int .i64 0, .int .i64 0] 29))
      have ND := Lib.hid (ND0.out.below (bal (bal (Below.refl _ w2) (.cells #[.int .i64 c', .int .i64 n', .bool k', .slice a' m' d', .slice ka' kn' kc'] 26)) (.cells #[.int .i64 0, .int .i64 0] 29)))
      have hG1 := Z3.out.lt
      generalize (w2.alloc (.cells #[.int .i64 c', .int .i64 n', .bool k', .slice a' m' d', .slice ka' kn' kc'] 26)).alloc (.cells #[.int .i64 0, .int .i64 0] 29) = w4 at *
      obtain ⟨RB, hRB⟩ : ∃ RB, Hid (w2.heap.size + 1 = RB) := ⟨_, rfl⟩
      obtain ⟨TB, hTB⟩ : ∃ TB, Hid (w2.heap.size = TB) := ⟨_, rfl⟩
      have hne1 : TB ≠ w.heap.size := by have := hTB.out; omega
      have hne2 : TB ≠ w.heap.size + 1 := by have := hTB.out; omega
      have hne3 : RB ≠ w.heap.size := by have := hRB.out; omega
      have hne4 : RB ≠ w.heap.size + 1 := by have := hRB.out; omega
      rw [hRB.out] at R4 ⊢
      rw [hTB.out] at T4 ⊢
      clear Z2 Z3 BB hG1
      obtain ⟨t0, t1, t2, t3, t4, tl⟩ := five T4.out
      obtain ⟨z20, z21, z22, z23, z24, hl2⟩ := five G4.out
      have z30 := E4.out.cell 0
      have z31 := E4.out.cell 1
      have r0 := R4.out.cell 0
      have r1 := R4.out.cell 1
      have rl := R4.out.lt
      have f2 := fun i => G4.out.frozen i
      have f3 := fun i => E4.out.frozen i
      have hl3 := E4.out.lt
      simp only [List.getElem?_toArray, List.getElem?_cons_zero, List.getElem?_cons_succ] at z30 z31 r0 r1
      clear hl2 hl3
      go_region
      go_wp2_with fail
      refine bodyPost_ret (v := .tuple #[.agg #[.int .i64 c', .int .i64 n', .bool k', .slice a' m' d', .slice ka' kn' kc'], .agg #[.int .i64 0, .int .i64 0]]) (by simp [results, Try.results29, go_sem, z20, z21, z22, z23, z24, z30, z31]) rfl ?_
      have hS := read_stored (B := w.heap.size) (u0 := .int .i64 c') (u1 := .int .i64 n') (u2 := .bool k') (u3 := .slice a' m' d') (u4 := .slice ka' kn' kc') (u5 := .int .i64 0) (u6 := .int .i64 0) (ND.out.weak fun b _ hb => by simp at hb; omega) Q4.out
      exact ⟨_, rfl, hS.1.drew, below_drewN hS.2 1⟩
  · rw [hr] at HI hlim
    obtain ⟨ho, hc1⟩ := hlim
    unfold ReadPost erV zeroN at HI
    simp only [Nat.zero_add] at HI
    have hp : parseT D l = .err C O := by unfold parseT; rw [hr]
    rw [hp]
    have hC : ((C : Int) == 0) = false := by simp; omega
    have hC2 : ((C : Int) != 0) = true := by simp; omega
    clear hr hp
    go_enter Try.func29, Try.ntmps29
    go_wp2_with fail
    refine (HI.out _ (bal (bal (Below.refl _ w) _) _)).mono ?_
    rintro e w2 ⟨rfl, q⟩
    have Z2 := Lib.hid (((Blk.new w 26 #[.int .i64 0, .int .i64 0, .bool false, .slice none 0 0, .slice none 0 0]).alloc (.cells #[.int .i64 0, .int .i64 0] 29)).below q (by simp; omega))
    have Z3 : Hid (Blk w2 (w.heap.size + 1) 29 #[.int .i64 0, .int .i64 0]) := by show Blk _ _ _ _; simpa using (((Blk.new (w.alloc (.cells #[.int .i64 0, .int .i64 0, .bool false, .slice none 0 0, .slice none 0 0] 26)) 29 #[.int .i64 0, .int .i64 0])).below q (by simp))
    have BB := Lib.hid (bthen (bal (bal (Below.refl _ w) _) _) q)
    clear q
    go_wp2_with fail
    have G4 := Lib.hid ((Z2.out.alloc (.cells #[.int .i64 0, .int .i64 0, .bool false, .slice none 0 0, .slice none 0 0] 26)).alloc (.cells #[.int .i64 C, .int .i64 O] 29))
    have E4 := Lib.hid ((Z3.out.alloc (.cells #[.int .i64 0, .int .i64 0, .bool false, .slice none 0 0, .slice none 0 0] 26)).alloc (.cells #[.int .i64 C, .int .i64 O] 29))
    have T4 := Lib.hid ((Blk.new w2 26 #[.int .i64 0, .int .i64 0, .bool false, .slice none 0 0, .slice none 0 0]).alloc (.cells #[.int .i64 C, .int .i64 O] 29))
    have R4 : Hid (Blk ((w2.alloc (.cells #[.int .i64 0, .int .i64 0, .bool false, .slice none 0 0, .slice none 0 0] 26)).alloc (.cells #[.int .i64 C, .int .i64 O] 29)) (w2.heap.size + 1) 29 #[.int .i64 C, .int .i64 O]) := by
      have := Blk.new (w2.alloc (.cells #[.int .i64 0, .int .i64 0, .bool false, .slice none 0 0, .slice none 0 0] 26)) 29 #[.int .i64 C, .int .i64 O]
      show Blk _ _ _ _
      simpa using this
    have Q4 := Lib.hid (bal (bal BB.out (.cells #[.int .i64 0, .int .i64 0, .bool false, .slice none 0 0, .slice none 0 0] 26)) (.cells #[.int .i64 C, .int .i64 O] 29))
    have hG1 := Z3.out.lt
    generalize (w2.alloc (.cells #[.int .i64 0, .int .i64 0, .bool false, .slice none 0 0, .slice none 0 0] 26)).alloc (.cells #[.int .i64 C, .int .i64 O] 29) = w4 at *
    obtain ⟨RB, hRB⟩ : ∃ RB, Hid (w2.heap.size + 1 = RB) := ⟨_, rfl⟩
    obtain ⟨TB, hTB⟩ : ∃ TB, Hid (w2.heap.size = TB) := ⟨_, rfl⟩
    have hne1 : TB ≠ w.heap.size := by have := hTB.out; omega
    have hne2 : TB ≠ w.heap.size + 1 := by have := hTB.out; omega
    have hne3 : RB ≠ w.heap.size := by have := hRB.out; omega
    have hne4 : RB ≠ w.heap.size + 1 := by have := hRB.out; omega
    rw [hRB.out] at R4 ⊢
    rw [hTB.out] at T4 ⊢
    clear Z2 Z3 BB hG1
    obtain ⟨t0, t1, t2, t3, t4, tl⟩ := five T4.out
    obtain ⟨z20, z21, z22, z23, z24, hl2⟩ := five G4.out
    have z30 := E4.out.cell 0
    have z31 := E4.out.cell 1
    have r0 := R4.out.cell 0
    have r1 := R4.out.cell 1
    have rl := R4.out.lt
    have f2 := fun i => G4.out.frozen i
    have f3 := fun i => E4.out.frozen i
    have hl3 := E4.out.lt
    simp only [List.getElem?_toArray, List.getElem?_cons_zero, List.getElem?_cons_succ] at z30 z31 r0 r1
    clear hl2 hl3
    go_region
    go_wp2_with fail
    refine bodyPost_ret (v := .tuple #[zeroN, .agg #[.int .i64 C, .int .i64 O]]) (by simp [results, Try.results29, go_sem, zeroN, z20, z21, z22, z23, z24, z30, z31]) rfl ?_
    exact ⟨rfl, by repeat (first | with_reducible exact Q4.out | with_reducible exact BB.out | with_reducible refine bal ?_ _ | with_reducible refine below_at ?_ _ _ | with_reducible refine below_at1 ?_ _ _ | with_reducible refine below_draw ?_)⟩

theorem ref_parse_any {w : World} {a : Option Addr} {n c : Nat} {l : List UInt8} (hx : Bs w a n c l) (hn : n ≤ 100000) :
    Calls Try.prog 12 #[.slice a n c] w (ParsePost w (parseT 16 l)) := by
  have HI := Lib.hid (fun W (h : Below w.heap.size w W) => ref_within_any (D := 16) (hx.below h) hn (by omega))
  generalize parseT 16 l = r at *
  cases r with
  | ok t s =>
    unfold ParsePost erV at HI
    simp only at HI
    go_enter Try.func12, Try.ntmps12
    go_wp2_with fail
    refine (HI.out _ (bal (bal (Below.refl _ w) _) _)).mono ?_
    rintro e w2 ⟨cs, rfl, hnd, q⟩
    cases t with
    | node c' n' k' l' ks' =>
    obtain ⟨a', m', d', ka', kn', kc', rfl, _⟩ := hnd.parts
    have Z2 := Lib.hid (((Blk.new w 26 #[.int .i64 0, .int .i64 0, .bool false, .slice none 0 0, .slice none 0 0]).alloc (.cells #[.int .i64 0, .int .i64 0] 29)).below q (by simp; omega))
    have Z3 : Hid (Blk w2 (w.heap.size + 1) 29 #[.int .i64 0, .int .i64 0]) := by show Blk _ _ _ _; simpa using (((Blk.new (w.alloc (.cells #[.int .i64 0, .int .i64 0, .bool false, .slice none 0 0, .slice none 0 0] 26)) 29 #[.int .i64 0, .int .i64 0])).below q (by simp))
    have BB := Lib.hid (bthen (bal (bal (Below.refl _ w) _) _) q)
    have ND := Lib.hid hnd
    clear q hnd
    obtain ⟨z20, z21, z22, z23, z24, hl2⟩ := five Z2.out
    have z30 := Z3.out.cell 0
    have z31 := Z3.out.cell 1
    have f2 := fun i => Z2.out.frozen i
    have f3 := fun i => Z3.out.frozen i
    simp only [List.getElem?_toArray, List.getElem?_cons_zero, List.getElem?_cons_succ] at z30 z31
    go_wp2_with fail
    refine bodyPost_ret (v := .tuple #[.agg #[.int .i64 c', .int .i64 n', .bool k', .slice a' m' d', .slice ka' kn' kc'], .agg #[.int .i64 0, .int .i64 0]]) (by simp [results, Try.results12, go_sem, z20, z21, z22, z23, z24, z30, z31]) rfl ?_
    have hS := read_stored (B := w.heap.size) (u0 := .int .i64 c') (u1 := .int .i64 n') (u2 := .bool k') (u3 := .slice a' m' d') (u4 := .slice ka' kn' kc') (u5 := .int .i64 0) (u6 := .int .i64 0) (ND.out.weak fun b _ hb => by simp at hb; omega) BB.out
    exact ⟨_, rfl, hS.1, hS.2⟩
  | err C O =>
    unfold ParsePost erV zeroN at HI
    simp only at HI
    go_enter Try.func12, Try.ntmps12
    go_wp2_with fail
    refine (HI.out _ (bal (bal (Below.refl _ w) _) _)).mono ?_
    rintro e w2 ⟨rfl, q⟩
    have Z2 := Lib.hid (((Blk.new w 26 #[.int .i64 0, .int .i64 0, .bool false, .slice none 0 0, .slice none 0 0]).alloc (.cells #[.int .i64 0, .int .i64 0] 29)).below q (by simp; omega))
    have Z3 : Hid (Blk w2 (w.heap.size + 1) 29 #[.int .i64 0, .int .i64 0]) := by show Blk _ _ _ _; simpa using (((Blk.new (w.alloc (.cells #[.int .i64 0, .int .i64 0, .bool false, .slice none 0 0, .slice none 0 0] 26)) 29 #[.int .i64 0, .int .i64 0])).below q (by simp))
    have BB := Lib.hid (bthen (bal (bal (Below.refl _ w) _) _) q)
    clear q
    obtain ⟨z20, z21, z22, z23, z24, hl2⟩ := five Z2.out
    have z30 := Z3.out.cell 0
    have z31 := Z3.out.cell 1
    have f2 := fun i => Z2.out.frozen i
    have f3 := fun i => Z3.out.frozen i
    simp only [List.getElem?_toArray, List.getElem?_cons_zero, List.getElem?_cons_succ] at z30 z31
    go_wp2_with fail
    refine bodyPost_ret (v := .tuple #[zeroN, .agg #[.int .i64 C, .int .i64 O]]) (by simp [results, Try.results12, go_sem, zeroN, z20, z21, z22, z23, z24, z30, z31]) rfl ?_
    exact ⟨rfl, by repeat (first | with_reducible exact BB.out | with_reducible refine bal ?_ _ | with_reducible refine below_at ?_ _ _ | with_reducible refine below_at1 ?_ _ _ | with_reducible refine below_draw ?_)⟩
end Go.Proofs.Ytgccjdhkpgmnoaa
