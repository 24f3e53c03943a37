/-
  Contract of the reference implementation's Next: its results are parts of the argument.
-/
import Derived.Test.YtgccjdhkpgmnoaaHeadRef
import Derived.RegionTactic
import Derived.ChangeAlike
import Derived.Deep.RegionHeld3
namespace Go.Proofs.Ytgccjdhkpgmnoaa
open Go.RowKit

theorem size_set (w : World) (p : Addr) (u : Value) : (w.setCell p u).heap.size = w.heap.size := by simp [World.setCell]
theorem cell_in {w : World} {o : Obj} {H j : Nat} {t : TypeId} {cs : Array Value} (h : w.heap.size = H) : (((w.alloc (.cells cs t)).alloc o).drew).cell? ⟨H, j, none⟩ = cs[j]? := by
  subst h
  exact (((Blk.new w t cs).alloc o).drewN 1).cell j
/-- what the reference's Next leaves: parts of the argument -/
def RefNextPost (w : World) (l : List UInt8) (e : Ending) (w' : World) : Prop :=
  ∃ a1 c1 a2 c2, e = .returned (.tuple #[hdV (rdNext l).h, .slice a1 (rdNext l).cont.length c1, .slice a2 (rdNext l).rest.length c2, erV (rdNext l).h.code (rdNext l).h.off]) ∧
    Bs w a1 (rdNext l).cont.length c1 (rdNext l).cont ∧ Bs w a2 (rdNext l).rest.length c2 (rdNext l).rest ∧ Below w.heap.size w w'
/-- the same, the parts read in a world w0 that the call's world goes on from -/
def RefNextFrom (w0 w : World) (l : List UInt8) (e : Ending) (w' : World) : Prop :=
  ∃ a1 c1 a2 c2, e = .returned (.tuple #[hdV (rdNext l).h, .slice a1 (rdNext l).cont.length c1, .slice a2 (rdNext l).rest.length c2, erV (rdNext l).h.code (rdNext l).h.off]) ∧
    Bs w0 a1 (rdNext l).cont.length c1 (rdNext l).cont ∧ Bs w0 a2 (rdNext l).rest.length c2 (rdNext l).rest ∧ Below w.heap.size w w'
theorem ref_next_err {w0 w w' : World} {l : List UInt8} {C O : Nat} (h : rdNext l = ⟨noHd C O, [], []⟩) (hb : Below w.heap.size w w') :
    RefNextFrom w0 w l (.returned (.tuple #[.agg #[.int .i64 0, .int .i64 0, .bool false, .int .i64 0, .int .i64 0], .slice none 0 0, .slice none 0 0, .agg #[.int .i64 C, .int .i64 O]])) w' := by
  unfold RefNextFrom
  rw [h]
  exact ⟨none, 0, none, 0, rfl, Bs.nil_ _, Bs.nil_ _, hb⟩
theorem ref_next_ok {w0 w w' : World} {l cont rest : List UInt8} {cls num len size r n1 : Nat} {con : Bool} {a3 a4 : Option Addr} {c3 c4 : Nat} (h : rdNext l = ⟨⟨cls, num, con, len, size, 0, 0⟩, cont, rest⟩)
    (B3 : Bs w0 a3 n1 c3 cont) (B4 : Bs w0 a4 r c4 rest) (hb : Below w.heap.size w w') :
    RefNextFrom w0 w l (.returned (.tuple #[.agg #[.int .i64 cls, .int .i64 num, .bool con, .int .i64 len, .int .i64 size], .slice a3 n1 c3, .slice a4 r c4, .agg #[.int .i64 0, .int .i64 0]])) w' := by
  obtain rfl := B3.len
  obtain rfl := B4.len
  unfold RefNextFrom
  rw [h]
  exact ⟨a3, c3, a4, c4, rfl, B3, B4, hb⟩

set_option maxRecDepth 100000 in
set_option maxHeartbeats 4000000 in
theorem ref_next_from {w0 w : World} {a : Option Addr} {n c : Nat} {l : List UInt8} (hx0 : Bs w0 a n c l) (hw0 : Below w0.heap.size w0 w) (hz : n ≤ 1000000) :
    Calls Try.prog 48 #[.slice a n c] w (RefNextFrom w0 w l) := by
  have hx := hx0.below hw0
  have HX0 := Lib.hid hx0
  have HX := Lib.hid hx
  clear hx0 hw0
  have hnc := hx.2.1
  have hl := hx.len
  have HR := Lib.hid (fun w (h : Bs w a n c l) => ref_readHeader_any h)
  clear hx
  by_cases hq : (rdHead l).code = 0
  · have hsz := rdHead_size hq
    have HN : Hid (rdNext l = if l.length - (rdHead l).size < (rdHead l).len then ⟨noHd 1 l.length, [], []⟩ else ⟨rdHead l, (l.drop (rdHead l).size).take (rdHead l).len, (l.drop (rdHead l).size).drop (rdHead l).len⟩) := by show _ = _; unfold rdNext; rw [if_pos hq]
    generalize rdHead l = h at *
    obtain ⟨cls, num, con, len, size, code, off⟩ := h
    simp only at hq hsz
    subst hq
    obtain ⟨hs1, hs2, hs3, hs4, rfl⟩ := hsz
    rw [hl] at hs1 HN
    obtain ⟨b, off', _, rfl, hb, _⟩ := HX.out.at_ (i := 0) (by omega)
    have hs2' : (2 : Int) ≤ size := by omega
    have hs1' : (size : Int) ≤ n := by omega
    have hs4' : (size : Int) ≤ 6 := by omega
    have hs3' : (len : Int) ≤ 2147483647 := by omega
    have hn9 : (n : Int) ≤ 1000000 := by omega
    unfold hdV erV at HR
    simp only at HR HN
    by_cases hcs : c = size
    · have hns : n = size := by omega
      subst hns
      subst hcs
      go_enter Try.func48, Try.ntmps48
      go_wp2_with fail
      refine (HR.out _ ((HX.out.alloc _).alloc _)).mono ?_
      rintro e w2 ⟨rfl, q⟩
      have Z2 := (((Blk.new w 63 #[.int .i64 0, .int .i64 0, .bool false, .int .i64 0, .int .i64 0]).alloc (.cells #[.int .i64 0, .int .i64 0] 29)).below q (by simp; omega))
      have Z3 : Blk w2 (w.heap.size + 1) 29 #[.int .i64 0, .int .i64 0] := by simpa using (((Blk.new (w.alloc (.cells #[.int .i64 0, .int .i64 0, .bool false, .int .i64 0, .int .i64 0] 63)) 29 #[.int .i64 0, .int .i64 0])).below q (by simp))
      have z20 := Z2.cell 0
      have z21 := Z2.cell 1
      have z22 := Z2.cell 2
      have z23 := Z2.cell 3
      have z24 := Z2.cell 4
      have f2 := fun i => Z2.frozen i
      have z30 := Z3.cell 0
      have z31 := Z3.cell 1
      have f3 := fun i => Z3.frozen i
      have hl2 := Z2.lt
      have hl3 := Z3.lt
      simp only [List.getElem?_toArray, List.getElem?_cons_zero, List.getElem?_cons_succ] at z20 z21 z22 z23 z24 z30 z31
      have BB := Lib.hid (bthen (bal (bal (Below.refl _ w) _) _) q)
      have RK := Lib.hid Z2
      have EK := Lib.hid Z3
      clear Z2 Z3 q
      by_cases hsh : c - c < len
      · rw [if_pos hsh] at HN
        have hshi : (0 : Int) < len := by omega
        have hshn : 0 < len := by omega
        go_wp2_with fail
        exact bodyPost_ret (v := .tuple #[.agg #[.int .i64 0, .int .i64 0, .bool false, .int .i64 0, .int .i64 0], .slice none 0 0, .slice none 0 0, .agg #[.int .i64 1, .int .i64 c]]) (by simp [results, Try.results48, go_sem, z20, z21, z22, z23, z24, z30, z31, hl2, hl3]) rfl (ref_next_err HN.out (by repeat (first | with_reducible exact BB.out | with_reducible refine bal ?_ _ | with_reducible refine below_at ?_ _ _ | with_reducible refine below_at1 ?_ _ _ | with_reducible refine below_draw ?_)))
      · rw [if_neg hsh] at HN
        have hlen : len = 0 := by omega
        have HB := Lib.hid (bs_drop HX0.out (i := c) (Nat.le_refl _))
        rw [if_pos rfl, Nat.sub_self] at HB
        subst hlen
        have HB1 := Lib.hid (bs_take HB.out (m := 0) (Nat.le_refl _))
        have HB2 : Hid (Bs w0 (some ⟨b, off', none⟩) 0 0 (List.drop 0 (List.drop c l))) := HB.out
        go_wp2_with fail
        clear HB HX HX0 HR hs1 hsh hl
        have hsum : IntKind.i64.wrap ((c : Int) + 0) = c := by rw [IntKind.wrap_i64]; omega
        have hsum2 : IntKind.i64.wrap (c : Int) = c := by rw [IntKind.wrap_i64]; omega
        have hc0 : (0 : Int) ≤ c := by omega
        have hc1 : (c : Int) ≤ c := Int.le_refl _
        go_region_held3 (fun w' => w'.cell? ⟨w2.heap.size, 0, none⟩ = some (.int .i64 cls) ∧ w'.cell? ⟨w2.heap.size, 1, none⟩ = some (.int .i64 num) ∧ w'.cell? ⟨w2.heap.size, 2, none⟩ = some (.bool con) ∧ w'.cell? ⟨w2.heap.size, 3, none⟩ = some (.int .i64 0) ∧ w'.cell? ⟨w2.heap.size, 4, none⟩ = some (.int .i64 c))
          (first | exact ⟨(cell_in (by simp only [size_set])).trans rfl, (cell_in (by simp only [size_set])).trans rfl, (cell_in (by simp only [size_set])).trans rfl, (cell_in (by simp only [size_set])).trans rfl, (cell_in (by simp only [size_set])).trans rfl⟩ | go_keep)
          (first | fail)
        go_wp2_with fail
        exact bodyPost_ret (v := .tuple #[.agg #[.int .i64 cls, .int .i64 num, .bool con, .int .i64 0, .int .i64 c], .slice (some ⟨b, off', none⟩) 0 0, .slice (some ⟨b, off', none⟩) 0 0, .agg #[.int .i64 0, .int .i64 0]]) (by simp [results, Try.results48, go_sem, z20, z21, z22, z23, z24, z30, z31, hl2, hl3]) rfl (ref_next_ok HN.out HB1.out HB2.out (by repeat (first | with_reducible exact BB.out | with_reducible refine bal ?_ _ | with_reducible refine below_at ?_ _ _ | with_reducible refine below_at1 ?_ _ _ | with_reducible refine below_draw ?_)))
    · have HB := Lib.hid (bs_drop HX0.out hs1)
      rw [if_neg hcs] at HB
      go_enter Try.func48, Try.ntmps48
      go_wp2_with fail
      refine (HR.out _ ((HX.out.alloc _).alloc _)).mono ?_
      rintro e w2 ⟨rfl, q⟩
      have Z2 := (((Blk.new w 63 #[.int .i64 0, .int .i64 0, .bool false, .int .i64 0, .int .i64 0]).alloc (.cells #[.int .i64 0, .int .i64 0] 29)).below q (by simp; omega))
      have Z3 : Blk w2 (w.heap.size + 1) 29 #[.int .i64 0, .int .i64 0] := by simpa using (((Blk.new (w.alloc (.cells #[.int .i64 0, .int .i64 0, .bool false, .int .i64 0, .int .i64 0] 63)) 29 #[.int .i64 0, .int .i64 0])).below q (by simp))
      have z20 := Z2.cell 0
      have z21 := Z2.cell 1
      have z22 := Z2.cell 2
      have z23 := Z2.cell 3
      have z24 := Z2.cell 4
      have f2 := fun i => Z2.frozen i
      have z30 := Z3.cell 0
      have z31 := Z3.cell 1
      have f3 := fun i => Z3.frozen i
      have hl2 := Z2.lt
      have hl3 := Z3.lt
      simp only [List.getElem?_toArray, List.getElem?_cons_zero, List.getElem?_cons_succ] at z20 z21 z22 z23 z24 z30 z31
      have BB := Lib.hid (bthen (bal (bal (Below.refl _ w) _) _) q)
      have RK := Lib.hid Z2
      have EK := Lib.hid Z3
      clear Z2 Z3 q
      have hni : ((n - size : Nat) : Int) = (n : Int) - size := by omega
      by_cases hsh : n - size < len
      · rw [if_pos hsh] at HN
        have hshi : (n : Int) - size < len := by omega
        clear hni
        go_wp2_with fail
        exact bodyPost_ret (v := .tuple #[.agg #[.int .i64 0, .int .i64 0, .bool false, .int .i64 0, .int .i64 0], .slice none 0 0, .slice none 0 0, .agg #[.int .i64 1, .int .i64 n]]) (by simp [results, Try.results48, go_sem, z20, z21, z22, z23, z24, z30, z31, hl2, hl3]) rfl (ref_next_err HN.out (by repeat (first | with_reducible exact BB.out | with_reducible refine bal ?_ _ | with_reducible refine below_at ?_ _ _ | with_reducible refine below_at1 ?_ _ _ | with_reducible refine below_draw ?_)))
      · rw [if_neg hsh] at HN
        have hshi : (len : Int) ≤ (n : Int) - size := by omega
        have hlm : len ≤ n - size := by omega
        have HB1 := Lib.hid (bs_take HB.out hlm)
        have HB2 := Lib.hid (bs_drop HX0.out (i := size + len) (by omega))
        rw [← List.drop_drop] at HB2
        obtain ⟨T, hT⟩ : ∃ T, Hid (size + len = T) := ⟨_, rfl⟩
        rw [hT.out] at HB2
        have hsum : IntKind.i64.wrap ((size : Int) + len) = T := by have := hT.out; rw [IntKind.wrap_i64]; omega
        have hT1 : (size : Int) ≤ T := by have := hT.out; omega
        have hT2 : (T : Int) ≤ n := by have := hT.out; omega
        have hT3 : (T : Int) ≤ c := by have := hT.out; omega
        have hT4 : T - size = len := by have := hT.out; omega
        have hT5 : T ≤ c := by omega
        have hT6 : size ≤ T := by omega
        have hl0 : (0 : Int) ≤ len := by omega
        clear hni HB
        by_cases hcl : c = T
        · rw [if_pos hcl] at HB2
          have hnT : n = T := by omega
          rw [hnT, hcl, Nat.sub_self] at HB2
          rw [hcl, hT4] at HB1
          subst hcl
          subst hnT
          go_wp2_with fail
          clear HX HX0 HR hs1 hsh hl
          go_region_held3 (fun w' => w'.cell? ⟨w2.heap.size, 0, none⟩ = some (.int .i64 cls) ∧ w'.cell? ⟨w2.heap.size, 1, none⟩ = some (.int .i64 num) ∧ w'.cell? ⟨w2.heap.size, 2, none⟩ = some (.bool con) ∧ w'.cell? ⟨w2.heap.size, 3, none⟩ = some (.int .i64 len) ∧ w'.cell? ⟨w2.heap.size, 4, none⟩ = some (.int .i64 size))
            (first | exact ⟨(cell_in (by simp only [size_set])).trans rfl, (cell_in (by simp only [size_set])).trans rfl, (cell_in (by simp only [size_set])).trans rfl, (cell_in (by simp only [size_set])).trans rfl, (cell_in (by simp only [size_set])).trans rfl⟩ | go_keep)
            (first | fail)
          go_wp2_with fail
          exact bodyPost_ret (v := .tuple #[.agg #[.int .i64 cls, .int .i64 num, .bool con, .int .i64 len, .int .i64 size], .slice (some ⟨b, off' + size, none⟩) len len, .slice (some ⟨b, off', none⟩) 0 0, .agg #[.int .i64 0, .int .i64 0]]) (by simp [results, Try.results48, go_sem, z20, z21, z22, z23, z24, z30, z31, hl2, hl3]) rfl (ref_next_ok HN.out HB1.out HB2.out (by repeat (first | with_reducible exact BB.out | with_reducible refine bal ?_ _ | with_reducible refine below_at ?_ _ _ | with_reducible refine below_at1 ?_ _ _ | with_reducible refine below_draw ?_)))
        · rw [if_neg hcl] at HB2
          go_wp2_with fail
          clear HX HX0 HR hs1 hsh hl
          go_region_held3 (fun w' => w'.cell? ⟨w2.heap.size, 0, none⟩ = some (.int .i64 cls) ∧ w'.cell? ⟨w2.heap.size, 1, none⟩ = some (.int .i64 num) ∧ w'.cell? ⟨w2.heap.size, 2, none⟩ = some (.bool con) ∧ w'.cell? ⟨w2.heap.size, 3, none⟩ = some (.int .i64 len) ∧ w'.cell? ⟨w2.heap.size, 4, none⟩ = some (.int .i64 size))
            (first | exact ⟨(cell_in (by simp only [size_set])).trans rfl, (cell_in (by simp only [size_set])).trans rfl, (cell_in (by simp only [size_set])).trans rfl, (cell_in (by simp only [size_set])).trans rfl, (cell_in (by simp only [size_set])).trans rfl⟩ | go_keep)
            (first | fail)
          go_wp2_with fail
          exact bodyPost_ret (v := .tuple #[.agg #[.int .i64 cls, .int .i64 num, .bool con, .int .i64 len, .int .i64 size], .slice (some ⟨b, off' + size, none⟩) len (c - size), .slice (some ⟨b, off' + T, none⟩) (n - T) (c - T), .agg #[.int .i64 0, .int .i64 0]]) (by simp [results, Try.results48, go_sem, z20, z21, z22, z23, z24, z30, z31, hl2, hl3]) rfl (ref_next_ok HN.out HB1.out HB2.out (by repeat (first | with_reducible exact BB.out | with_reducible refine bal ?_ _ | with_reducible refine below_at ?_ _ _ | with_reducible refine below_at1 ?_ _ _ | with_reducible refine below_draw ?_)))
  · have HN : Hid (rdNext l = ⟨rdHead l, [], []⟩) := by show _ = _; unfold rdNext; rw [if_neg hq]
    have he := rdHead_err l hq
    rw [he] at HR HN
    generalize (rdHead l).code = C at *
    generalize (rdHead l).off = O at *
    have hC : ((C : Int) == 0) = false := by simp; omega
    have hC2 : ((C : Int) != 0) = true := by simp; omega
    unfold hdV erV noHd at HR
    clear hq he
    go_enter Try.func48, Try.ntmps48
    go_wp2_with fail
    refine (HR.out _ ((HX.out.alloc _).alloc _)).mono ?_
    rintro e w2 ⟨rfl, q⟩
    have Z2 := (((Blk.new w 63 #[.int .i64 0, .int .i64 0, .bool false, .int .i64 0, .int .i64 0]).alloc (.cells #[.int .i64 0, .int .i64 0] 29)).below q (by simp; omega))
    have Z3 : Blk w2 (w.heap.size + 1) 29 #[.int .i64 0, .int .i64 0] := by simpa using (((Blk.new (w.alloc (.cells #[.int .i64 0, .int .i64 0, .bool false, .int .i64 0, .int .i64 0] 63)) 29 #[.int .i64 0, .int .i64 0])).below q (by simp))
    have z20 := Z2.cell 0
    have z21 := Z2.cell 1
    have z22 := Z2.cell 2
    have z23 := Z2.cell 3
    have z24 := Z2.cell 4
    have f2 := fun i => Z2.frozen i
    have z30 := Z3.cell 0
    have z31 := Z3.cell 1
    have f3 := fun i => Z3.frozen i
    have hl2 := Z2.lt
    have hl3 := Z3.lt
    simp only [List.getElem?_toArray, List.getElem?_cons_zero, List.getElem?_cons_succ] at z20 z21 z22 z23 z24 z30 z31
    have BB := Lib.hid (bthen (bal (bal (Below.refl _ w) _) _) q)
    clear Z2 Z3 q
    go_wp2_with fail
    go_region
    go_wp2_with fail
    exact bodyPost_ret (v := .tuple #[.agg #[.int .i64 0, .int .i64 0, .bool false, .int .i64 0, .int .i64 0], .slice none 0 0, .slice none 0 0, .agg #[.int .i64 C, .int .i64 O]]) (by simp [results, Try.results48, go_sem, z20, z21, z22, z23, z24, z30, z31, hl2, hl3]) rfl (ref_next_err HN.out (by repeat (first | with_reducible exact BB.out | with_reducible refine bal ?_ _ | with_reducible refine below_at ?_ _ _ | with_reducible refine below_at1 ?_ _ _ | with_reducible refine below_draw ?_)))
theorem ref_next_any {w : World} {a : Option Addr} {n c : Nat} {l : List UInt8} (hx : Bs w a n c l) (hz : n ≤ 1000000) :
    Calls Try.prog 48 #[.slice a n c] w (RefNextPost w l) := ref_next_from hx (Below.refl _ _) hz
end Go.Proofs.Ytgccjdhkpgmnoaa
