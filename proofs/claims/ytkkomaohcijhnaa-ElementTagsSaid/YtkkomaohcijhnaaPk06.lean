/-
  Lemmas and contracts of functions, for the proofs of this seat's laws; nothing of a law.
-/
import Derived.Test.YtkkomaohcijhnaaPk03
import Derived.Test.YtkkomaohcijhnaaPk05
namespace Go.Proofs.Ytkkomaohcijhnaa
open Go.RowKit
set_option maxRecDepth 100000 in
set_option maxHeartbeats 16000000 in
theorem tags_walk {w : World} {a : Option Addr} {n c : Nat} {es : List El} {tc tn : Int} {k : Bool} (hx : Ew w a n c es)
    (HA : ∀ v : World, Below w.heap.size w v → Calls Try.prog 10 #[] v fun e w' => e = .returned (.bool true) ∧ Below v.heap.size v w')
    (HI : ∀ (x : El) (cl : Int) (k : Bool) (nu : Int) (v : World), Calls Try.prog 19 #[elV x, .int .i64 cl, .bool k, .int .i64 nu] v fun e w' => e = .returned (.bool (isE x cl k nu)) ∧ Below v.heap.size v w')
    (HT : ∀ (v : World) (a : Option Addr) (n c : Nat) (es : List El), n ≤ 1000000 → Ew v a n c es → Calls Try.prog 17 #[.slice a n c] v fun e w' => e = .returned (.string ⟨(tagsR es).toArray⟩) ∧ Below v.heap.size v w') :
    Calls Try.prog 8 #[.slice a n c, .agg #[.int .i64 tc, .int .i64 tn], .bool k] w fun e w' => e = .returned (.bool true) ∧ Below w.heap.size w w' := by
  have H0 := Lib.hid HA
  have hcm : n ≤ 9223372036854775807 := by have := hx.2.1; have := hx.2.2.1; unfold maxLen at this; omega
  obtain ⟨A, hA⟩ : ∃ A, w.heap.size = A := ⟨_, rfl⟩
  have Q1 := Lib.hid (bal (Below.refl w.heap.size w) (.cells #[.int .i64 tc, .int .i64 tn] 40))
  have E1 := Lib.hid (hx.alloc (.cells #[.int .i64 tc, .int .i64 tn] 40))
  have A1 : Hid (Blk (w.alloc (.cells #[.int .i64 tc, .int .i64 tn] 40)) A 40 #[.int .i64 tc, .int .i64 tn]) := by rw [← hA]; exact Blk.new _ _ _
  by_cases hn : n ≤ 200
  · have hn2 : ¬ (200 : Int) < n := by omega
    have H1 := Lib.hid HI
    have H2 := Lib.hid (fun v a m c es hm h => HT v a m c es hm h)
    clear HA HI HT hx
    go_enter Try.func8, Try.ntmps8
    go_wp2_with fail
    generalize w.alloc (.cells #[.int .i64 tc, .int .i64 tn] 40) = w1 at *
    clear hA
    with_reducible refine (H0.out _ Q1.out).mono ?_
    rintro e w2 ⟨rfl, q⟩
    have Q2 := Lib.hid (bthen Q1.out q)
    have E2 := Lib.hid (E1.out.below q)
    have A2 := Lib.hid (A1.out.below q A1.out.lt)
    clear q Q1 E1 A1
    go_wp2_with fail
    go_loopw [7] (fun i wr => ∃ j : Nat, j ≤ n ∧ i = .int .i64 j ∧ Ew wr a n c es ∧ Blk wr A 40 #[.int .i64 tc, .int .i64 tn] ∧ Below w.heap.size w wr) (fun i _ => n - (intOf i).toNat)
    case atStart => exact ⟨0, Nat.zero_le _, rfl, E2.out, A2.out, Q2.out⟩
    case round =>
      obtain ⟨j, hj, rfl, he, ha, hq⟩ := hrel
      have E4 := Lib.hid he
      have A4 := Lib.hid ha
      have Q4 := Lib.hid hq
      clear he ha hq E2 A2 Q2
      have hj0 : (0 : Int) ≤ j := by omega
      by_cases hlt : j < n
      · have hlt2 : (j : Int) < n := by omega
        obtain ⟨b4, o4, hl4, rfl, hb4, p0, p1, p2, p3, p4, p5⟩ := E4.out.at_ hlt
        obtain ⟨t0, t1, tl, tf⟩ := A4.out.cells2
        obtain ⟨x, hxx⟩ : ∃ x, es[j] = x := ⟨_, rfl⟩
        rw [hxx] at p0 p1 p2 p3 p4 p5
        clear hxx tf
        have HIS := Lib.hid (fun p : Past wr => H1.out x tc k tn p.v)
        obtain ⟨x0, x1, x2, x3, x4, x5⟩ := x
        unfold elV isE at HIS
        dsimp only at HIS p0 p1 p2 p3 p4 p5
        have y0 := Past.cell hb4 p0
        have y1 := Past.cell hb4 p1
        have y2 := Past.cell hb4 p2
        have y3 := Past.cell hb4 p3
        have y4 := Past.cell hb4 p4
        have y5 := Past.cell hb4 p5
        have z0 := Past.cell tl t0
        have z1 := Past.cell tl t1
        clear p0 p1 p2 p3 p4 p5 t0 t1
        by_cases c0 : x0 = tc
        · subst c0
          rcases hk : (x2 == k) with _ | _
          · have hk2 : x2 ≠ k := by simpa using hk
            rw [decide_eq_false (fun h => hk2 h.2.1)] at HIS
            go_wp2_with fail
            refine region_past (by kernel_rfl) (by kernel_rfl) ?_
            go_big_quiet_step ((go_at_call 19; exact Calls.past_of (HIS.out _)))
            repeat (go_big_quiet_step ((go_at_call 19; exact Calls.past_of (HIS.out _))))
            refine wpQuiet_nil ?_
            intro _ hw'
            obtain ⟨p5, hw''⟩ := hw'
            subst hw''
            have E5 := Lib.hid (E4.out.below p5.h)
            have A5 := Lib.hid (A4.out.below p5.h A4.out.lt)
            have Q5 := Lib.hid (bthen Q4.out p5.h)
            go_wp2_with fail
            exact ⟨⟨j + 1, by omega, by go_num, E5.out, A5.out, Q5.out⟩, by simp [intOf]; omega⟩
          · have hk2 : x2 = k := by simpa using hk
            subst hk2
            by_cases c1 : x1 = tn
            · subst c1
              rw [decide_eq_true ⟨rfl, rfl, rfl⟩] at HIS
              go_wp2_with fail
              refine region_past (by kernel_rfl) (by kernel_rfl) ?_
              go_big_quiet_step ((go_at_call 19; exact Calls.past_of (HIS.out _)))
              repeat (go_big_quiet_step ((go_at_call 19; exact Calls.past_of (HIS.out _))))
              refine wpQuiet_nil ?_
              intro _ hw'
              obtain ⟨p5, hw''⟩ := hw'
              subst hw''
              have E5 := Lib.hid (E4.out.below p5.h)
              have A5 := Lib.hid (A4.out.below p5.h A4.out.lt)
              have Q5 := Lib.hid (bthen Q4.out p5.h)
              go_wp2_with fail
              exact ⟨⟨j + 1, by omega, by go_num, E5.out, A5.out, Q5.out⟩, by simp [intOf]; omega⟩
            · have c1b : (x1 == tn) = false := by simp [c1]
              rw [decide_eq_false (fun h => c1 h.2.2)] at HIS
              go_wp2_with fail
              refine region_past (by kernel_rfl) (by kernel_rfl) ?_
              go_big_quiet_step ((go_at_call 19; exact Calls.past_of (HIS.out _)))
              repeat (go_big_quiet_step ((go_at_call 19; exact Calls.past_of (HIS.out _))))
              refine wpQuiet_nil ?_
              intro _ hw'
              obtain ⟨p5, hw''⟩ := hw'
              subst hw''
              have E5 := Lib.hid (E4.out.below p5.h)
              have A5 := Lib.hid (A4.out.below p5.h A4.out.lt)
              have Q5 := Lib.hid (bthen Q4.out p5.h)
              go_wp2_with fail
              exact ⟨⟨j + 1, by omega, by go_num, E5.out, A5.out, Q5.out⟩, by simp [intOf]; omega⟩
        · have c0b : (x0 == tc) = false := by simp [c0]
          rw [decide_eq_false (fun h => c0 h.1)] at HIS
          go_wp2_with fail
          refine region_past (by kernel_rfl) (by kernel_rfl) ?_
          go_big_quiet_step ((go_at_call 19; exact Calls.past_of (HIS.out _)))
          repeat (go_big_quiet_step ((go_at_call 19; exact Calls.past_of (HIS.out _))))
          refine wpQuiet_nil ?_
          intro _ hw'
          obtain ⟨p5, hw''⟩ := hw'
          subst hw''
          have E5 := Lib.hid (E4.out.below p5.h)
          have A5 := Lib.hid (A4.out.below p5.h A4.out.lt)
          have Q5 := Lib.hid (bthen Q4.out p5.h)
          go_wp2_with fail
          exact ⟨⟨j + 1, by omega, by go_num, E5.out, A5.out, Q5.out⟩, by simp [intOf]; omega⟩
      · obtain rfl : j = n := by omega
        have hlt2 : ¬ (j : Int) < j := by omega
        go_wp2_with fail
        with_reducible refine (H2.out _ _ _ _ _ (by omega) E4.out).mono ?_
        rintro e w5 ⟨rfl, q⟩
        have E5 := Lib.hid (E4.out.below q)
        have Q5 := Lib.hid (bthen Q4.out q)
        clear q
        have HR := Lib.hid (ref_tags_any E5.out (by omega))
        go_wp2_with fail
        with_reducible refine (HR.out).mono ?_
        rintro e w6 ⟨rfl, q, rfl⟩
        go_wp2_with fail
        go_ret
        exact ⟨by simp, below_drewN Q5.out q⟩
  · have hn2 : (200 : Int) < n := by omega
    clear HA HI HT hx
    go_enter Try.func8, Try.ntmps8
    go_wp2_with fail
    generalize w.alloc (.cells #[.int .i64 tc, .int .i64 tn] 40) = w1 at *
    clear hA
    with_reducible refine (H0.out _ Q1.out).mono ?_
    rintro e w2 ⟨rfl, q⟩
    have Q2 := Lib.hid (bthen Q1.out q)
    clear q
    go_wp2_with fail
    with_reducible refine (H0.out _ Q2.out).mono ?_
    rintro e w3 ⟨rfl, q⟩
    have Q3 := Lib.hid (bthen Q2.out q)
    clear q
    go_wp2_with fail
    go_ret
    exact ⟨rfl, Q3.out⟩
end Go.Proofs.Ytkkomaohcijhnaa
namespace Go.Proofs.Ytkkomaohcijhnaa
open Go.RowKit
structure Mid (lo hi : Nat) (w w' : World) : Prop where
  os : w'.os = w.os
  tape : w'.tape = w.tape
  output : w'.output = w.output
  size : w'.heap.size = w.heap.size
  block : ∀ k, k < lo ∨ hi ≤ k → w'.heap[k]? = w.heap[k]?
theorem Mid.refl (lo hi : Nat) (w : World) : Mid lo hi w w := ⟨rfl, rfl, rfl, rfl, fun _ _ => rfl⟩
theorem Mid.below {lo hi : Nat} {w w' : World} (h : Mid lo hi w w') : Below lo w w' := ⟨h.os, h.tape, h.output, Nat.le_of_eq h.size.symm, fun k hk => h.block k (.inl hk)⟩
theorem Mid.store {lo hi g : Nat} {w w' : World} (h : Mid lo hi w w') (h1 : lo ≤ g) (h2 : g < hi) (k : Nat) (u : Value) : Mid lo hi w (w'.setCell ⟨g, k, none⟩ u) := by
  have hb := (Below.refl lo w').setCell (p := ⟨g, k, none⟩) h1 u
  refine ⟨hb.os.trans h.os, hb.tape.trans h.tape, hb.output.trans h.output, by rw [size_set]; exact h.size, fun j hj => ?_⟩
  rw [Below.heap_setCell _ ⟨g, k, none⟩ _ _ (show j ≠ g by omega)]
  exact h.block j hj
theorem Own.mid {lo hi : Nat} {w w' : World} {B : Nat} {e : TypeId} {a : Option Addr} {n c : Nat} {l : List UInt8} (h : Own w B e a n c l) (hm : Mid lo hi w w') (hB : hi ≤ B) : Own w' B e a n c l :=
  h.keep fun x hx => hm.block _ (.inr (by have := (h.base x hx).1; omega))
theorem OwnP.mid {lo hi : Nat} {w w' : World} {B : Nat} {a : Option Addr} {n c : Nat} {R : List Sl} (h : OwnP w B a n c R) (hm : Mid lo hi w w') (hB : hi ≤ B) : OwnP w' B a n c R :=
  ⟨h.1.keep fun x hx => hm.block _ (.inr (by have := (h.1.base x hx).1; omega)), h.2.1.keep fun s hs x hx => hm.block _ (.inr (by have := ((h.2.1.1 s hs).base x hx).1; omega)), h.2.2⟩
theorem OwnP.more {w : World} {B B' : Nat} {a : Option Addr} {n c : Nat} {R : List Sl} (h : OwnP w B a n c R) (hB : B' ≤ B) : OwnP w B' a n c R :=
  ⟨(h.1.v.more hB).s, ⟨fun s hs => (h.2.1.1 s hs).more hB, h.2.1.2⟩, h.2.2⟩
theorem OwnP.nil_ (w : World) (B : Nat) : OwnP w B none 0 0 [] := ⟨OwnS.nil_ _ _ _, ⟨fun s hs => absurd hs (by simp), List.Pairwise.nil⟩, fun s hs => absurd hs (by simp)⟩
theorem OwnP.push {w7 w8 : World} {B G j cO g cap : Nat} {aO : Option Addr} {M : List Sl} {x : Sl} (h : OwnP w7 B aO j cO M) (hx : Own w7 G 5 x.a x.n x.c x.l) (hG : B ≤ G) (hM : ∀ s ∈ M, ∀ y, s.a = some y → y.block < G) (hA : ∀ y, aO = some y → y.block < G)
    (ho : w8.ownsRow B 22 1 (.slice (some ⟨g, 0, none⟩) (j + 1) cap) (j + 1) (cellsS M ++ [x.v])) (hg : w7.grownBy w8 (Value.ownBlock (.slice aO j cO))) (hat : Value.ownBlock (.slice aO j cO) = some g ∨ g = w7.heap.size) : OwnP w8 B (some ⟨g, 0, none⟩) (j + 1) cap (M ++ [x]) := by
  have hne : ∀ s ∈ M ++ [x], ∀ y, s.a = some y → y.block < w7.heap.size ∧ ∀ z, aO = some z → y.block ≠ z.block := fun s hs y hy => by
    rcases List.mem_append.1 hs with h1 | h1
    · exact ⟨((h.2.1.1 s h1).base y hy).2, fun z hz => h.2.2 s h1 y z hy hz⟩
    · rw [List.mem_singleton] at h1
      subst h1
      have hb := hx.base y hy
      exact ⟨hb.2, fun z hz => by have := hA z hz; omega⟩
  have hk : ∀ s ∈ M ++ [x], ∀ y, s.a = some y → w8.heap[y.block]? = w7.heap[y.block]? := fun s hs y hy => by
    obtain ⟨h1, h2⟩ := hne s hs y hy
    refine hg.block _ h1 (fun e => ?_)
    cases aO with
    | none => simp [Value.ownBlock] at e
    | some z => simp [Value.ownBlock] at e; exact h2 z rfl e
  refine ⟨⟨by rw [List.length_append, h.1.1]; rfl, ?_⟩, (h.2.1.snoc hx hG hM).keep hk, fun s hs y z hy hz => ?_⟩
  · unfold cellsS at ho ⊢
    rw [List.map_append]
    exact ho
  · obtain ⟨h1, h2⟩ := hne s hs y hy
    injection hz with hz
    subst hz
    show y.block ≠ g
    rcases hat with e | e
    · cases aO with
      | none => simp [Value.ownBlock] at e
      | some z => simp [Value.ownBlock] at e; have := h2 z rfl; omega
    · omega
theorem OwnP.write {w : World} {B : Nat} {a : Option Addr} {n c : Nat} {R : List Sl} (h : OwnP w B a n c R) {i : Nat} (hi : i < R.length) {g : Nat} (hg : R[i].a = some ⟨g, 0, none⟩) (k : Nat) (z : UInt8) :
    OwnP (w.setCell ⟨g, k, none⟩ (.int .u8 z.toNat)) B a n c (R.set i ⟨R[i].a, R[i].n, R[i].c, R[i].l.set k z⟩) ∧ cellsS (R.set i ⟨R[i].a, R[i].n, R[i].c, R[i].l.set k z⟩) = cellsS R := by
  have hc : cellsS (R.set i ⟨R[i].a, R[i].n, R[i].c, R[i].l.set k z⟩) = cellsS R := by
    unfold cellsS
    rw [List.map_set]
    have : (⟨R[i].a, R[i].n, R[i].c, R[i].l.set k z⟩ : Sl).v = (R.map Sl.v)[i]'(by rw [List.length_map]; exact hi) := by rw [List.getElem_map]; rfl
    rw [this, List.set_getElem_self]
  have hin := List.getElem_mem hi
  refine ⟨⟨⟨by rw [List.length_set]; exact h.1.1, ?_⟩, ⟨fun s hs => ?_, ?_⟩, fun s hs x y hx hy => ?_⟩, hc⟩
  · rw [hc]
    exact (h.1.keep (w' := w.setCell ⟨g, k, none⟩ (.int .u8 z.toNat)) fun x hx => Below.heap_setCell _ ⟨g, k, none⟩ _ _ (fun e => h.2.2 _ hin ⟨g, 0, none⟩ x hg hx e.symm)).2
  · obtain ⟨j, hj, rfl⟩ := List.getElem_of_mem hs
    rw [List.length_set] at hj
    rw [List.getElem_set]
    split
    · have := (h.2.1.1 _ hin)
      rw [hg] at this
      have := this.stored k z
      rw [← hg] at this
      exact this
    · rename_i hij
      refine (h.2.1.1 _ (List.getElem_mem hj)).keep fun x hx => Below.heap_setCell _ ⟨g, k, none⟩ _ _ ?_
      have hp := List.pairwise_iff_getElem.1 h.2.1.2
      rcases Nat.lt_or_ge i j with h1 | h1
      · exact fun e => hp i j hi hj h1 ⟨g, 0, none⟩ x hg hx e.symm
      · exact hp j i hj hi (by omega) x ⟨g, 0, none⟩ hx hg
  · rw [List.pairwise_iff_getElem]
    intro p q hp hq hpq x y hx hy
    rw [List.length_set] at hp hq
    have ha : ∀ (t : Nat) (ht : t < R.length), ((R.set i ⟨R[i].a, R[i].n, R[i].c, R[i].l.set k z⟩)[t]'(by rw [List.length_set]; exact ht)).a = R[t].a := fun t ht => by
      rw [List.getElem_set]
      split
      · rename_i e; subst e; rfl
      · rfl
    rw [ha p hp] at hx
    rw [ha q hq] at hy
    exact List.pairwise_iff_getElem.1 h.2.1.2 p q hp hq hpq x y hx hy
  · obtain ⟨j, hj, rfl⟩ := List.getElem_of_mem hs
    rw [List.length_set] at hj
    rw [List.getElem_set] at hx
    split at hx
    · rename_i e; subst e; exact h.2.2 _ hin x y hx hy
    · exact h.2.2 _ (List.getElem_mem hj) x y hx hy
theorem OwnP.part {w : World} {B : Nat} {a : Option Addr} {n c : Nat} {M M' : List Sl} (h : OwnP w B a n c M') (hc : cellsS M' = cellsS M) {i : Nat} (hi : i < M.length) :
    ∃ hi' : i < M'.length, M'[i].a = M[i].a ∧ M'[i].n = M[i].n ∧ M'[i].c = M[i].c ∧ ∃ g, a = some ⟨g, 0, none⟩ ∧ B ≤ g ∧ g < w.heap.size ∧ w.cell? ⟨g, i, none⟩ = some (.slice M[i].a M[i].n M[i].c) := by
  have hl : M'.length = M.length := by
    have := congrArg List.length hc
    unfold cellsS at this
    rwa [List.length_map, List.length_map] at this
  have hi' : i < M'.length := by omega
  have hv : M'[i].v = M[i].v := by
    have e1 : (cellsS M')[i]? = some M'[i].v := by unfold cellsS; rw [List.getElem?_map, List.getElem?_eq_getElem hi']; rfl
    have e2 : (cellsS M)[i]? = some M[i].v := by unfold cellsS; rw [List.getElem?_map, List.getElem?_eq_getElem hi]; rfl
    rw [hc, e2] at e1
    injection e1 with e1
    exact e1.symm
  unfold Sl.v at hv
  injection hv with v1 v2 v3
  refine ⟨hi', v1, v2, v3, ?_⟩
  rcases h.1.2.2 with ⟨_, hz⟩ | ⟨g, cap, cur, hv2, hB, _⟩
  · have := h.1.1; omega
  · injection hv2 with e1 e2 e3
    subst e1
    refine ⟨g, rfl, hB, (h.1.base _ rfl).2, ?_⟩
    have := h.1.v.cellO (j := i) (v := M'[i].v) (by unfold cellsS; rw [List.getElem?_map, List.getElem?_eq_getElem hi']; rfl)
    rw [this]
    unfold Sl.v
    rw [v1, v2, v3]
theorem OwnP.octet {w : World} {B : Nat} {a : Option Addr} {n c : Nat} {M M' : List Sl} (h : OwnP w B a n c M') (hc : cellsS M' = cellsS M) {i k : Nat} (hi : i < M.length) (hk : k < M[i].n) :
    ∃ (g : Nat) (y : UInt8), M[i].a = some ⟨g, 0, none⟩ ∧ B ≤ g ∧ M[i].n ≤ 9223372036854775807 ∧ w.cell? ⟨g, k, none⟩ = some (.int .u8 y.toNat) ∧ w.frozen? ⟨g, k, none⟩ = false ∧
      ∀ z : UInt8, ∃ M3, OwnP (w.setCell ⟨g, k, none⟩ (.int .u8 z.toNat)) B a n c M3 ∧ cellsS M3 = cellsS M := by
  obtain ⟨hi', v1, v2, v3, _⟩ := h.part hc hi
  have ho := h.2.1.1 _ (List.getElem_mem hi')
  obtain ⟨g, hg, hB, _⟩ := ho.pos (by omega)
  have hbs := ho.bs
  have hlen := hbs.len
  have hkl : k < M'[i].l.length := by omega
  have ho2 := ho
  rw [hg] at ho2
  refine ⟨g, M'[i].l[k], by rw [← v1]; exact hg, hB, by have := hbs.2.1; have := hbs.2.2.1; unfold maxLen at this; omega, ho2.cell hkl, ho2.frozen k, fun z => ?_⟩
  obtain ⟨h1, h2⟩ := h.write hi' hg k z
  exact ⟨_, h1, h2.trans hc⟩
theorem cat_lsOf (ss : List Sl) : cat ss = (lsOf ss).flatten := rfl
theorem u8_inc (y : UInt8) : IntKind.u8.wrap ((y.toNat : Int) + 1) = ((y + 1).toNat : Int) := by
  have := UInt8.toNat_lt y
  rw [IntKind.wrap_u8', UInt8.toNat_add]
  simp
end Go.Proofs.Ytkkomaohcijhnaa
