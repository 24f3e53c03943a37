/-
  Contract of the program's Next.
-/
import Derived.Test.YtepdgaokaneflaaHead
import Derived.Deep.RegionHeld3
import Derived.Laws.Pointers
import Derived.StillTactics
namespace Go.Proofs.Ytepdgaokaneflaa
open Go.RowKit

theorem cell_far {w : World} {b g i j : Nat} {u : Value} (h : g ≠ b) : (w.setCell ⟨b, i, none⟩ u).cell? ⟨g, j, none⟩ = w.cell? ⟨g, j, none⟩ :=
  World.cell?_of_block (a := ⟨g, j, none⟩) (Below.heap_setCell w ⟨b, i, none⟩ u g h)
/-- what Next leaves -/
def NextPost (w : World) (l : List UInt8) (e : Ending) (w' : World) : Prop :=
  ∃ a1 c1 a2 c2, e = .returned (.tuple #[hdV (rdNext l).h, .slice a1 (rdNext l).cont.length c1, .slice a2 (rdNext l).rest.length c2, erV (rdNext l).h.code (rdNext l).h.off]) ∧
    Own w' w.heap.size 5 a1 (rdNext l).cont.length c1 (rdNext l).cont ∧ Own w' w.heap.size 5 a2 (rdNext l).rest.length c2 (rdNext l).rest ∧
    (∀ x y, a1 = some x → a2 = some y → x.block ≠ y.block) ∧ Below w.heap.size w w'

theorem heap_res {w : World} {B g : Nat} {u0 u1 u2 u3 u4 u5 u6 : Value} (h : B + 1 < g) :
    (((((((w.setCell ⟨B, 0, none⟩ u0).setCell ⟨B, 1, none⟩ u1).setCell ⟨B, 2, none⟩ u2).setCell ⟨B, 3, none⟩ u3).setCell ⟨B, 4, none⟩ u4).setCell ⟨B + 1, 0, none⟩ u5).setCell ⟨B + 1, 1, none⟩ u6).heap[g]? = w.heap[g]? := by
  have h0 : g ≠ B := by omega
  have h1 : g ≠ B + 1 := by omega
  rw [Below.heap_setCell _ ⟨B + 1, 1, none⟩ _ g h1, Below.heap_setCell _ ⟨B + 1, 0, none⟩ _ g h1, Below.heap_setCell _ ⟨B, 4, none⟩ _ g h0, Below.heap_setCell _ ⟨B, 3, none⟩ _ g h0, Below.heap_setCell _ ⟨B, 2, none⟩ _ g h0, Below.heap_setCell _ ⟨B, 1, none⟩ _ g h0, Below.heap_setCell _ ⟨B, 0, none⟩ _ g h0]
theorem next_ok {w w3 w4 : World} {l cont rest : List UInt8} {cls num len size r : Nat} {con : Bool} {a3 a4 : Option Addr} {c3 c4 B : Nat} {u0 u1 u2 u3 u4 u5 u6 : Value} (h : rdNext l = ⟨⟨cls, num, con, len, size, 0, 0⟩, cont, rest⟩) (h1 : cont.length = len) (h2 : rest.length = r)
    (O3 : Own w3 B 5 a3 len c3 cont) (hB : w.heap.size + 2 ≤ B) (Q4 : Below w3.heap.size w3 w4) (O4 : Own w4 w3.heap.size 5 a4 r c4 rest) (hw : w.heap.size + 2 ≤ w3.heap.size) (B4 : Below w.heap.size w w4) :
    NextPost w l (.returned (.tuple #[.agg #[.int .i64 cls, .int .i64 num, .bool con, .int .i64 len, .int .i64 size], .slice a3 len c3, .slice a4 r c4, .agg #[.int .i64 0, .int .i64 0]]))
      (((((((w4.setCell ⟨w.heap.size, 0, none⟩ u0).setCell ⟨w.heap.size, 1, none⟩ u1).setCell ⟨w.heap.size, 2, none⟩ u2).setCell ⟨w.heap.size, 3, none⟩ u3).setCell ⟨w.heap.size, 4, none⟩ u4).setCell ⟨w.heap.size + 1, 0, none⟩ u5).setCell ⟨w.heap.size + 1, 1, none⟩ u6) := by
  subst h1; subst h2
  unfold NextPost
  rw [h]
  refine ⟨a3, c3, a4, c4, rfl, ?_, ?_, fun x y hx hy => ?_, ?_⟩
  · exact ((O3.below Q4).more (by omega)).keep fun x hx => heap_res (by have := (O3.base x hx).1; omega)
  · exact (O4.more (by omega)).keep fun x hx => heap_res (by have := (O4.base x hx).1; omega)
  · have := (O3.base x hx).2
    have := (O4.base y hy).1
    omega
  · exact below_at1 (below_at1 (below_at (below_at (below_at (below_at (below_at B4 _ _) _ _) _ _) _ _) _ _) _ _) _ _
theorem next_err {w w' : World} {l : List UInt8} {C O : Nat} (h : rdNext l = ⟨noHd C O, [], []⟩) (hb : Below w.heap.size w w') :
    NextPost w l (.returned (.tuple #[.agg #[.int .i64 0, .int .i64 0, .bool false, .int .i64 0, .int .i64 0], .slice none 0 0, .slice none 0 0, .agg #[.int .i64 C, .int .i64 O]])) w' := by
  unfold NextPost
  rw [h]
  exact ⟨none, 0, none, 0, rfl, World.ownsRow_nil _ _ _ _, World.ownsRow_nil _ _ _ _, fun _ _ hx => (by cases hx), hb⟩
set_option maxRecDepth 100000 in
set_option maxHeartbeats 4000000 in
theorem next_any {w : World} {a : Option Addr} {n c : Nat} {l : List UInt8} (hx : Bs w a n c l) (hz : n ≤ 1000000) :
    Calls Try.prog 24 #[.slice a n c] w (NextPost w l) := by
  have HX := Lib.hid hx
  have hnc := hx.2.1
  have hl := hx.len
  have HR := Lib.hid (fun w (h : Bs w a n c l) => readHeader_any h)
  clear hx
  by_cases hq : (rdHead l).code = 0
  · have hsz := rdHead_size hq
    have HN : Hid (rdNext l = if l.length - (rdHead l).size < (rdHead l).len then ⟨noHd 1 l.length, [], []⟩ else ⟨rdHead l, (l.drop (rdHead l).size).take (rdHead l).len, (l.drop (rdHead l).size).drop (rdHead l).len⟩) := by show _ = _; unfold rdNext; rw [if_pos hq]
    generalize rdHead l = h at *
    obtain ⟨cls, num, con, len, size, code, off⟩ := h
    simp only at hq hsz
    subst hq
    obtain ⟨hs1, hs2, hs3, hs4, rfl⟩ := hsz
    rw [hl] at hs1 HN
    obtain ⟨b, off', _, rfl, hb, _⟩ := HX.out.at_ (i := 0) (by omega)
    have hs2' : (2 : Int) ≤ size := by omega
    have hs1' : (size : Int) ≤ n := by omega
    have hs4' : (size : Int) ≤ 6 := by omega
    have hs3' : (len : Int) ≤ 2147483647 := by omega
    have hn9 : (n : Int) ≤ 1000000 := by omega
    unfold hdV erV at HR
    simp only at HR HN
    by_cases hcs : c = size
    · have hns : n = size := by omega
      subst hns
      subst hcs
      go_enter Try.func24, Try.ntmps24
      go_wp2_with fail
      refine (HR.out _ ((HX.out.alloc _).alloc _)).mono ?_
      rintro e w2 ⟨rfl, q⟩
      have Z2 := (((Blk.new w 40 #[.int .i64 0, .int .i64 0, .bool false, .int .i64 0, .int .i64 0]).alloc (.cells #[.int .i64 0, .int .i64 0] 35)).below q (by simp; omega))
      have Z3 : Blk w2 (w.heap.size + 1) 35 #[.int .i64 0, .int .i64 0] := by simpa using (((Blk.new (w.alloc (.cells #[.int .i64 0, .int .i64 0, .bool false, .int .i64 0, .int .i64 0] 40)) 35 #[.int .i64 0, .int .i64 0])).below q (by simp))
      have z20 := Z2.cell 0
      have z21 := Z2.cell 1
      have z22 := Z2.cell 2
      have z23 := Z2.cell 3
      have z24 := Z2.cell 4
      have f2 := fun i => Z2.frozen i
      have z30 := Z3.cell 0
      have z31 := Z3.cell 1
      have f3 := fun i => Z3.frozen i
      have hl2 := Z2.lt
      have hl3 := Z3.lt
      simp only [List.getElem?_toArray, List.getElem?_cons_zero, List.getElem?_cons_succ] at z20 z21 z22 z23 z24 z30 z31
      have BB := Lib.hid (bthen (bal (bal (Below.refl _ w) _) _) q)
      have RK := Lib.hid Z2
      have EK := Lib.hid Z3
      clear Z2 Z3 q
      by_cases hsh : c - c < len
      · rw [if_pos hsh] at HN
        have hshi : (0 : Int) < len := by omega
        have hshn : 0 < len := by omega
        go_wp2_with fail
        exact bodyPost_ret (v := .tuple #[.agg #[.int .i64 0, .int .i64 0, .bool false, .int .i64 0, .int .i64 0], .slice none 0 0, .slice none 0 0, .agg #[.int .i64 1, .int .i64 c]]) (by simp [results, Try.results24, go_sem, z20, z21, z22, z23, z24, z30, z31, hl2, hl3]) rfl (next_err HN.out (by repeat (first | with_reducible exact BB.out | with_reducible refine bal ?_ _ | with_reducible refine below_at ?_ _ _ | with_reducible refine below_at1 ?_ _ _ | with_reducible refine below_draw ?_)))
      · rw [if_neg hsh] at HN
        have hlen : len = 0 := by omega
        have HB := Lib.hid (bs_drop HX.out (i := c) (Nat.le_refl _))
        rw [if_pos rfl, Nat.sub_self] at HB
        subst hlen
        have HB1 := Lib.hid (bs_take HB.out (m := 0) (Nat.le_refl _))
        have HB2 : Hid (Bs w (some ⟨b, off', none⟩) 0 0 (List.drop 0 (List.drop c l))) := HB.out
        have hlen9 : 0 ≤ 1000000 := by omega
        have hml9 : 0 ≤ 1000000 := by omega
        go_wp2_with fail
        clear HB HX HR hs1 hs1' hsh hl
        have HK := Lib.hid ((Blk.new w2 40 #[.int .i64 cls, .int .i64 num, .bool con, .int .i64 0, .int .i64 c]).alloc (.cells #[.int .i64 0, .int .i64 0] 35))
        have F2 := Lib.hid (fun W i j u => cell_far (w := W) (i := i) (j := j) (u := u) (g := w2.heap.size) (b := w.heap.size) (by omega))
        have F3 := Lib.hid (fun W i j u => cell_far (w := W) (i := i) (j := j) (u := u) (g := w2.heap.size) (b := w.heap.size + 1) (by omega))
        have BX := Lib.hid (below_draw (bal (bal BB.out (.cells #[.int .i64 cls, .int .i64 num, .bool con, .int .i64 0, .int .i64 c] 40)) (.cells #[.int .i64 0, .int .i64 0] 35)))
        have RKx := Lib.hid (((RK.out.alloc (.cells #[.int .i64 cls, .int .i64 num, .bool con, .int .i64 0, .int .i64 c] 40)).alloc (.cells #[.int .i64 0, .int .i64 0] 35)).drewN 1)
        have EKx := Lib.hid (((EK.out.alloc (.cells #[.int .i64 cls, .int .i64 num, .bool con, .int .i64 0, .int .i64 c] 40)).alloc (.cells #[.int .i64 0, .int .i64 0] 35)).drewN 1)
        go_region_held3 (fun w' => w'.cell? ⟨w2.heap.size, 0, none⟩ = some (.int .i64 cls) ∧ w'.cell? ⟨w2.heap.size, 1, none⟩ = some (.int .i64 num) ∧ w'.cell? ⟨w2.heap.size, 2, none⟩ = some (.bool con) ∧ w'.cell? ⟨w2.heap.size, 3, none⟩ = some (.int .i64 0) ∧ w'.cell? ⟨w2.heap.size, 4, none⟩ = some (.int .i64 c))
          (first | with_reducible exact ⟨k40, k41, k42, k43, k44⟩ | with_reducible exact ⟨k30, k31, k32, k33, k34⟩ | (simp only [F2.out, F3.out]; with_reducible exact ⟨k40, k41, k42, k43, k44⟩) | go_keep)
          (first
           | (go_at_call 36; (with_reducible refine (clone_any (HB1.out.below BX.out) hlen9).mono ?_); rintro e w3 ⟨a3, c3, rfl, ho3, hb3⟩; have HK3 := Lib.hid ((HK.out.drewN 1).below hb3 (by simp; omega)); have RK3 := Lib.hid (RKx.out.below hb3 (by simp; omega)); have EK3 := Lib.hid (EKx.out.below hb3 (by simp; omega)); have B3 : Hid (Below w.heap.size w w3) := bthen BX.out hb3; have Q3 : Hid (w.heap.size + 2 ≤ w3.heap.size) := (by show _ ≤ _; have := hb3.size; simp at this; omega); have O3 := Lib.hid ho3; have k30 := HK3.out.cell 0; have k31 := HK3.out.cell 1; have k32 := HK3.out.cell 2; have k33 := HK3.out.cell 3; have k34 := HK3.out.cell 4; simp only [List.getElem?_toArray, List.getElem?_cons_zero, List.getElem?_cons_succ] at k30 k31 k32 k33 k34; clear ho3 hb3)
           | (go_at_call 36; go_must (refine (clone_any (HB2.out.below B3.out) hml9).mono ?_); rintro e w4 ⟨a4, c4, rfl, ho4, hb4⟩; have HK4 := Lib.hid (HK3.out.below hb4 HK3.out.lt); have RK4 := Lib.hid (RK3.out.below hb4 RK3.out.lt); have EK4 := Lib.hid (EK3.out.below hb4 EK3.out.lt); have B4 : Hid (Below w.heap.size w w4) := bthen B3.out hb4; have Q4 := Lib.hid hb4; have O4 := Lib.hid ho4; have k40 := HK4.out.cell 0; have k41 := HK4.out.cell 1; have k42 := HK4.out.cell 2; have k43 := HK4.out.cell 3; have k44 := HK4.out.cell 4; have y20 := RK4.out.cell 0; have y21 := RK4.out.cell 1; have y22 := RK4.out.cell 2; have y23 := RK4.out.cell 3; have y24 := RK4.out.cell 4; have y30 := EK4.out.cell 0; have y31 := EK4.out.cell 1; have g2 := fun i => RK4.out.frozen i; have g3 := fun i => EK4.out.frozen i; have hl42 := RK4.out.lt; have hl43 := EK4.out.lt; simp only [List.getElem?_toArray, List.getElem?_cons_zero, List.getElem?_cons_succ] at y20 y21 y22 y23 y24 y30 y31 k40 k41 k42 k43 k44; clear ho4 hb4))
        clear k30 k31 k32 k33 k34 k40 k41 k42 k43 k44
        go_wp2_with fail
        exact bodyPost_ret (v := .tuple #[.agg #[.int .i64 cls, .int .i64 num, .bool con, .int .i64 0, .int .i64 c], .slice a3 0 c3, .slice a4 0 c4, .agg #[.int .i64 0, .int .i64 0]]) (by simp [results, Try.results24, go_sem, y20, y21, y22, y23, y24, y30, y31]) rfl (next_ok HN.out HB1.out.len HB2.out.len O3.out (by simp; omega) Q4.out O4.out (by have := Q3.out; omega) B4.out)
    · have HB := Lib.hid (bs_drop HX.out hs1)
      rw [if_neg hcs] at HB
      go_enter Try.func24, Try.ntmps24
      go_wp2_with fail
      refine (HR.out _ ((HX.out.alloc _).alloc _)).mono ?_
      rintro e w2 ⟨rfl, q⟩
      have Z2 := (((Blk.new w 40 #[.int .i64 0, .int .i64 0, .bool false, .int .i64 0, .int .i64 0]).alloc (.cells #[.int .i64 0, .int .i64 0] 35)).below q (by simp; omega))
      have Z3 : Blk w2 (w.heap.size + 1) 35 #[.int .i64 0, .int .i64 0] := by simpa using (((Blk.new (w.alloc (.cells #[.int .i64 0, .int .i64 0, .bool false, .int .i64 0, .int .i64 0] 40)) 35 #[.int .i64 0, .int .i64 0])).below q (by simp))
      have z20 := Z2.cell 0
      have z21 := Z2.cell 1
      have z22 := Z2.cell 2
      have z23 := Z2.cell 3
      have z24 := Z2.cell 4
      have f2 := fun i => Z2.frozen i
      have z30 := Z3.cell 0
      have z31 := Z3.cell 1
      have f3 := fun i => Z3.frozen i
      have hl2 := Z2.lt
      have hl3 := Z3.lt
      simp only [List.getElem?_toArray, List.getElem?_cons_zero, List.getElem?_cons_succ] at z20 z21 z22 z23 z24 z30 z31
      have BB := Lib.hid (bthen (bal (bal (Below.refl _ w) _) _) q)
      have RK := Lib.hid Z2
      have EK := Lib.hid Z3
      clear Z2 Z3 q
      by_cases hsh : n - size < len
      · rw [if_pos hsh] at HN
        go_wp2_with fail
        exact bodyPost_ret (v := .tuple #[.agg #[.int .i64 0, .int .i64 0, .bool false, .int .i64 0, .int .i64 0], .slice none 0 0, .slice none 0 0, .agg #[.int .i64 1, .int .i64 n]]) (by simp [results, Try.results24, go_sem, z20, z21, z22, z23, z24, z30, z31, hl2, hl3]) rfl (next_err HN.out (by repeat (first | with_reducible exact BB.out | with_reducible refine bal ?_ _ | with_reducible refine below_at ?_ _ _ | with_reducible refine below_at1 ?_ _ _ | with_reducible refine below_draw ?_)))
      · rw [if_neg hsh] at HN
        have hlm : len ≤ n - size := by omega
        by_cases hcl : c - size = len
        · have hmC := HB.out.2.1
          have hm : n - size = len := by omega
          have HB1 := Lib.hid (bs_take HB.out hlm)
          have HB2 := Lib.hid (bs_drop HB.out hlm)
          rw [if_pos hcl, hm, hcl, Nat.sub_self] at HB2
          rw [hcl] at HB1
          have hlen9 : len ≤ 1000000 := by omega
          have hml9 : 0 ≤ 1000000 := by omega
          have hlen0 : (0 : Int) ≤ len := by omega
          have hlen63 : (len : Int) ≤ 1000000 := by omega
          clear HB hmC
          go_wp2_with fail
          clear HX HR hs1 hs1' hcs hsh hl hlm
          have HK := Lib.hid ((Blk.new w2 40 #[.int .i64 cls, .int .i64 num, .bool con, .int .i64 len, .int .i64 size]).alloc (.cells #[.int .i64 0, .int .i64 0] 35))
          have F2 := Lib.hid (fun W i j u => cell_far (w := W) (i := i) (j := j) (u := u) (g := w2.heap.size) (b := w.heap.size) (by omega))
          have F3 := Lib.hid (fun W i j u => cell_far (w := W) (i := i) (j := j) (u := u) (g := w2.heap.size) (b := w.heap.size + 1) (by omega))
          have BX := Lib.hid (below_draw (bal (bal BB.out (.cells #[.int .i64 cls, .int .i64 num, .bool con, .int .i64 len, .int .i64 size] 40)) (.cells #[.int .i64 0, .int .i64 0] 35)))
          have RKx := Lib.hid (((RK.out.alloc (.cells #[.int .i64 cls, .int .i64 num, .bool con, .int .i64 len, .int .i64 size] 40)).alloc (.cells #[.int .i64 0, .int .i64 0] 35)).drewN 1)
          have EKx := Lib.hid (((EK.out.alloc (.cells #[.int .i64 cls, .int .i64 num, .bool con, .int .i64 len, .int .i64 size] 40)).alloc (.cells #[.int .i64 0, .int .i64 0] 35)).drewN 1)
          go_region_held3 (fun w' => w'.cell? ⟨w2.heap.size, 0, none⟩ = some (.int .i64 cls) ∧ w'.cell? ⟨w2.heap.size, 1, none⟩ = some (.int .i64 num) ∧ w'.cell? ⟨w2.heap.size, 2, none⟩ = some (.bool con) ∧ w'.cell? ⟨w2.heap.size, 3, none⟩ = some (.int .i64 len) ∧ w'.cell? ⟨w2.heap.size, 4, none⟩ = some (.int .i64 size))
            (first | with_reducible exact ⟨k40, k41, k42, k43, k44⟩ | with_reducible exact ⟨k30, k31, k32, k33, k34⟩ | (simp only [F2.out, F3.out]; with_reducible exact ⟨k40, k41, k42, k43, k44⟩) | go_keep)
            (first
             | (go_at_call 36; (with_reducible refine (clone_any (HB1.out.below BX.out) hlen9).mono ?_); rintro e w3 ⟨a3, c3, rfl, ho3, hb3⟩; have HK3 := Lib.hid ((HK.out.drewN 1).below hb3 (by simp; omega)); have RK3 := Lib.hid (RKx.out.below hb3 (by simp; omega)); have EK3 := Lib.hid (EKx.out.below hb3 (by simp; omega)); have B3 : Hid (Below w.heap.size w w3) := bthen BX.out hb3; have Q3 : Hid (w.heap.size + 2 ≤ w3.heap.size) := (by show _ ≤ _; have := hb3.size; simp at this; omega); have O3 := Lib.hid ho3; have k30 := HK3.out.cell 0; have k31 := HK3.out.cell 1; have k32 := HK3.out.cell 2; have k33 := HK3.out.cell 3; have k34 := HK3.out.cell 4; simp only [List.getElem?_toArray, List.getElem?_cons_zero, List.getElem?_cons_succ] at k30 k31 k32 k33 k34; clear ho3 hb3)
             | (go_at_call 36; go_must (refine (clone_any (HB2.out.below B3.out) hml9).mono ?_); rintro e w4 ⟨a4, c4, rfl, ho4, hb4⟩; have HK4 := Lib.hid (HK3.out.below hb4 HK3.out.lt); have RK4 := Lib.hid (RK3.out.below hb4 RK3.out.lt); have EK4 := Lib.hid (EK3.out.below hb4 EK3.out.lt); have B4 : Hid (Below w.heap.size w w4) := bthen B3.out hb4; have Q4 := Lib.hid hb4; have O4 := Lib.hid ho4; have k40 := HK4.out.cell 0; have k41 := HK4.out.cell 1; have k42 := HK4.out.cell 2; have k43 := HK4.out.cell 3; have k44 := HK4.out.cell 4; have y20 := RK4.out.cell 0; have y21 := RK4.out.cell 1; have y22 := RK4.out.cell 2; have y23 := RK4.out.cell 3; have y24 := RK4.out.cell 4; have y30 := EK4.out.cell 0; have y31 := EK4.out.cell 1; have g2 := fun i => RK4.out.frozen i; have g3 := fun i => EK4.out.frozen i; have hl42 := RK4.out.lt; have hl43 := EK4.out.lt; simp only [List.getElem?_toArray, List.getElem?_cons_zero, List.getElem?_cons_succ] at y20 y21 y22 y23 y24 y30 y31 k40 k41 k42 k43 k44; clear ho4 hb4))
          clear k30 k31 k32 k33 k34 k40 k41 k42 k43 k44
          go_wp2_with fail
          exact bodyPost_ret (v := .tuple #[.agg #[.int .i64 cls, .int .i64 num, .bool con, .int .i64 len, .int .i64 size], .slice a3 len c3, .slice a4 0 c4, .agg #[.int .i64 0, .int .i64 0]]) (by simp [results, Try.results24, go_sem, y20, y21, y22, y23, y24, y30, y31]) rfl (next_ok HN.out HB1.out.len HB2.out.len O3.out (by simp; omega) Q4.out O4.out (by have := Q3.out; omega) B4.out)
        · have HB1 := Lib.hid (bs_take HB.out hlm)
          have HB2 := Lib.hid (bs_drop HB.out hlm)
          rw [if_neg hcl] at HB2
          have hm9 : n - size ≤ 1000000 := by omega
          have hlen9 : len ≤ 1000000 := by omega
          have hml9 : n - size - len ≤ 1000000 := by omega
          have hmC := HB.out.2.1
          have hC63 : c - size ≤ 9223372036854775807 := by have := HB.out.2.2.1; unfold maxLen at this; omega
          go_wp2_with fail
          clear HB HX HR hs1 hs1' hcs hsh hl
          generalize n - size = m at *
          generalize c - size = C at *
          generalize off' + size = o at *
          have hlC : len ≤ C := by omega
          have hlC' : (len : Int) ≤ C := by omega
          have hlm' : (len : Int) ≤ m := by omega
          have hmC' : (m : Int) ≤ C := by omega
          have hl0 : (0 : Int) ≤ len := by omega
          have HK := Lib.hid ((Blk.new w2 40 #[.int .i64 cls, .int .i64 num, .bool con, .int .i64 len, .int .i64 size]).alloc (.cells #[.int .i64 0, .int .i64 0] 35))
          have F2 := Lib.hid (fun W i j u => cell_far (w := W) (i := i) (j := j) (u := u) (g := w2.heap.size) (b := w.heap.size) (by omega))
          have F3 := Lib.hid (fun W i j u => cell_far (w := W) (i := i) (j := j) (u := u) (g := w2.heap.size) (b := w.heap.size + 1) (by omega))
          have BX := Lib.hid (below_draw (bal (bal BB.out (.cells #[.int .i64 cls, .int .i64 num, .bool con, .int .i64 len, .int .i64 size] 40)) (.cells #[.int .i64 0, .int .i64 0] 35)))
          have RKx := Lib.hid (((RK.out.alloc (.cells #[.int .i64 cls, .int .i64 num, .bool con, .int .i64 len, .int .i64 size] 40)).alloc (.cells #[.int .i64 0, .int .i64 0] 35)).drewN 1)
          have EKx := Lib.hid (((EK.out.alloc (.cells #[.int .i64 cls, .int .i64 num, .bool con, .int .i64 len, .int .i64 size] 40)).alloc (.cells #[.int .i64 0, .int .i64 0] 35)).drewN 1)
          go_region_held3 (fun w' => w'.cell? ⟨w2.heap.size, 0, none⟩ = some (.int .i64 cls) ∧ w'.cell? ⟨w2.heap.size, 1, none⟩ = some (.int .i64 num) ∧ w'.cell? ⟨w2.heap.size, 2, none⟩ = some (.bool con) ∧ w'.cell? ⟨w2.heap.size, 3, none⟩ = some (.int .i64 len) ∧ w'.cell? ⟨w2.heap.size, 4, none⟩ = some (.int .i64 size))
            (first | with_reducible exact ⟨k40, k41, k42, k43, k44⟩ | with_reducible exact ⟨k30, k31, k32, k33, k34⟩ | (simp only [F2.out, F3.out]; with_reducible exact ⟨k40, k41, k42, k43, k44⟩) | go_keep)
            (first
             | (go_at_call 36; (with_reducible refine (clone_any (HB1.out.below BX.out) hlen9).mono ?_); rintro e w3 ⟨a3, c3, rfl, ho3, hb3⟩; have HK3 := Lib.hid ((HK.out.drewN 1).below hb3 (by simp; omega)); have RK3 := Lib.hid (RKx.out.below hb3 (by simp; omega)); have EK3 := Lib.hid (EKx.out.below hb3 (by simp; omega)); have B3 : Hid (Below w.heap.size w w3) := bthen BX.out hb3; have Q3 : Hid (w.heap.size + 2 ≤ w3.heap.size) := (by show _ ≤ _; have := hb3.size; simp at this; omega); have O3 := Lib.hid ho3; have k30 := HK3.out.cell 0; have k31 := HK3.out.cell 1; have k32 := HK3.out.cell 2; have k33 := HK3.out.cell 3; have k34 := HK3.out.cell 4; simp only [List.getElem?_toArray, List.getElem?_cons_zero, List.getElem?_cons_succ] at k30 k31 k32 k33 k34; clear ho3 hb3)
             | (go_at_call 36; go_must (refine (clone_any (HB2.out.below B3.out) hml9).mono ?_); rintro e w4 ⟨a4, c4, rfl, ho4, hb4⟩; have HK4 := Lib.hid (HK3.out.below hb4 HK3.out.lt); have RK4 := Lib.hid (RK3.out.below hb4 RK3.out.lt); have EK4 := Lib.hid (EK3.out.below hb4 EK3.out.lt); have B4 : Hid (Below w.heap.size w w4) := bthen B3.out hb4; have Q4 := Lib.hid hb4; have O4 := Lib.hid ho4; have k40 := HK4.out.cell 0; have k41 := HK4.out.cell 1; have k42 := HK4.out.cell 2; have k43 := HK4.out.cell 3; have k44 := HK4.out.cell 4; have y20 := RK4.out.cell 0; have y21 := RK4.out.cell 1; have y22 := RK4.out.cell 2; have y23 := RK4.out.cell 3; have y24 := RK4.out.cell 4; have y30 := EK4.out.cell 0; have y31 := EK4.out.cell 1; have g2 := fun i => RK4.out.frozen i; have g3 := fun i => EK4.out.frozen i; have hl42 := RK4.out.lt; have hl43 := EK4.out.lt; simp only [List.getElem?_toArray, List.getElem?_cons_zero, List.getElem?_cons_succ] at y20 y21 y22 y23 y24 y30 y31 k40 k41 k42 k43 k44; clear ho4 hb4))
          clear k30 k31 k32 k33 k34 k40 k41 k42 k43 k44
          go_wp2_with fail
          exact bodyPost_ret (v := .tuple #[.agg #[.int .i64 cls, .int .i64 num, .bool con, .int .i64 len, .int .i64 size], .slice a3 len c3, .slice a4 (m - len) c4, .agg #[.int .i64 0, .int .i64 0]]) (by simp [results, Try.results24, go_sem, y20, y21, y22, y23, y24, y30, y31]) rfl (next_ok HN.out HB1.out.len HB2.out.len O3.out (by simp; omega) Q4.out O4.out (by have := Q3.out; omega) B4.out)
  · have HN : Hid (rdNext l = ⟨rdHead l, [], []⟩) := by show _ = _; unfold rdNext; rw [if_neg hq]
    have he := rdHead_err l hq
    rw [he] at HR HN
    generalize (rdHead l).code = C at *
    generalize (rdHead l).off = O at *
    have hC : ((C : Int) == 0) = false := by simp; omega
    have hC2 : ((C : Int) != 0) = true := by simp; omega
    unfold hdV erV noHd at HR
    clear hq he
    go_enter Try.func24, Try.ntmps24
    go_wp2_with fail
    refine (HR.out _ ((HX.out.alloc _).alloc _)).mono ?_
    rintro e w2 ⟨rfl, q⟩
    have Z2 := (((Blk.new w 40 #[.int .i64 0, .int .i64 0, .bool false, .int .i64 0, .int .i64 0]).alloc (.cells #[.int .i64 0, .int .i64 0] 35)).below q (by simp; omega))
    have Z3 : Blk w2 (w.heap.size + 1) 35 #[.int .i64 0, .int .i64 0] := by simpa using (((Blk.new (w.alloc (.cells #[.int .i64 0, .int .i64 0, .bool false, .int .i64 0, .int .i64 0] 40)) 35 #[.int .i64 0, .int .i64 0])).below q (by simp))
    have z20 := Z2.cell 0
    have z21 := Z2.cell 1
    have z22 := Z2.cell 2
    have z23 := Z2.cell 3
    have z24 := Z2.cell 4
    have f2 := fun i => Z2.frozen i
    have z30 := Z3.cell 0
    have z31 := Z3.cell 1
    have f3 := fun i => Z3.frozen i
    have hl2 := Z2.lt
    have hl3 := Z3.lt
    simp only [List.getElem?_toArray, List.getElem?_cons_zero, List.getElem?_cons_succ] at z20 z21 z22 z23 z24 z30 z31
    have BB := Lib.hid (bthen (bal (bal (Below.refl _ w) _) _) q)
    clear Z2 Z3 q
    go_wp2_with fail
    go_region
    go_wp2_with fail
    exact bodyPost_ret (v := .tuple #[.agg #[.int .i64 0, .int .i64 0, .bool false, .int .i64 0, .int .i64 0], .slice none 0 0, .slice none 0 0, .agg #[.int .i64 C, .int .i64 O]]) (by simp [results, Try.results24, go_sem, z20, z21, z22, z23, z24, z30, z31, hl2, hl3]) rfl (next_err HN.out (by repeat (first | with_reducible exact BB.out | with_reducible refine bal ?_ _ | with_reducible refine below_at ?_ _ _ | with_reducible refine below_at1 ?_ _ _ | with_reducible refine below_draw ?_)))
end Go.Proofs.Ytepdgaokaneflaa
