/-
  Contracts of Decode, of the program and of the reference.
-/
import Derived.Test.YtfflfahhfhnkdaaBitLen
import Derived.Test.YtfflfahhfhnkdaaSlClone
import Derived.Test.YtfflfahhfhnkdaaWk
import Derived.BigRegion
import Derived.Deep.RegionHeld3
namespace Go.Proofs.Ytfflfahhfhnkdaa
open Go.RowKit

/-- what stands behind the first octet, and the first octet -/
def insB (c : List UInt8) : List UInt8 := c.tail
def insU (c : List UInt8) : Nat := (c.head?.map UInt8.toNat).getD 0
def insOk (c : List UInt8) : Bool := (decBits c).isSome
def dbC (c : List UInt8) : Nat := if insOk c = true then 0 else 6
theorem ins_nil : insOk [] = false ∧ insB [] = [] ∧ insU [] = 0 := ⟨rfl, rfl, rfl⟩
theorem ins_cons (x : UInt8) (r : List UInt8) : insOk (x :: r) = vB r x.toNat ∧ insB (x :: r) = r ∧ insU (x :: r) = x.toNat := by
  refine ⟨?_, rfl, rfl⟩
  unfold insOk
  rw [decBits_cons]
  cases vB r x.toNat <;> rfl
theorem bitsOf_yes {c : List UInt8} (h : insOk c = true) : bitsOf c = (insB c, insU c) ∧ dbC c = 0 := by
  refine ⟨?_, if_pos h⟩
  rcases c with _ | ⟨x, r⟩
  · cases h
  · rw [(ins_cons x r).1] at h
    unfold bitsOf
    rw [decBits_cons, if_pos h]
    rfl
theorem bitsOf_no {c : List UInt8} (h : insOk c = false) : bitsOf c = ([], 0) ∧ dbC c = 6 := by
  refine ⟨?_, if_neg (by rw [h]; decide)⟩
  unfold insOk at h
  unfold bitsOf
  rw [Option.isSome_eq_false_iff, Option.isNone_iff_eq_none] at h
  rw [h]
  rfl

set_option maxRecDepth 100000 in
set_option maxHeartbeats 2000000 in
theorem inside_any {w : World} {a : Option Addr} {n c : Nat} {l : List UInt8} (h : Bs w a n c l) :
    Calls Try.prog 30 #[.slice a n c] w fun e w' => ∃ a' c', e = .returned (.tuple #[bV a' (insB l).length c' (insU l), .bool (insOk l)]) ∧ Bs w' a' (insB l).length c' (insB l) ∧ Below w.heap.size w w' := by
  unfold bV
  have HX := Lib.hid h
  have hl := h.len
  have hnm : (n : Int) ≤ 9223372036854775807 := by have := h.2.1; have := h.2.2.1; unfold maxLen at this; omega
  have hnc := h.2.1
  clear h
  rcases l with _ | ⟨x, r⟩
  · simp only [List.length_nil] at hl
    subst hl
    go_enter Try.func30, Try.ntmps30
    go_wp2_with fail
    exact bodyPost_ret (v := .tuple #[.agg #[.slice none 0 0, .int .i64 0], .bool false]) (by simp [results, Try.results30, go_sem]) rfl ⟨none, 0, rfl, Bs.nil_ _, bal (Below.refl _ _) _⟩
  · simp only [List.length_cons] at hl
    rw [(ins_cons x r).1, (ins_cons x r).2.1, (ins_cons x r).2.2]
    obtain ⟨b, off, _, rfl, hb, hc⟩ := HX.out.at_ (i := 0) (by omega)
    simp only [List.getElem_cons_zero, Nat.add_zero] at hc
    have hxb := byte_bd x
    have hn1 : 0 < n := by omega
    have hn2 : 0 < (n : Int) := by omega
    have hn3 : ((n : Int) == 0) = false := by simp; omega
    have HD : Hid (Bs w (if c = 1 then some ⟨b, off, none⟩ else some ⟨b, off + 1, none⟩) r.length (c - 1) r) := by
      have := bs_drop HX.out (i := 1) (by omega)
      rw [show n - 1 = r.length from by omega] at this
      exact this
    have hr1 : (n : Int) - 1 = (r.length : Int) := by omega
    obtain ⟨m, hm⟩ : ∃ m, r.length = m := ⟨_, rfl⟩
    rw [hm] at HD hr1 hl ⊢
    subst hl
    have HV := Lib.hid (fun W A C (hx : Bs W A m C r) => bvalid_any hx x.toNat)
    unfold bV at HV
    have hm1 : (m : Int) + 1 ≤ 9223372036854775807 := by omega
    have hm2 : ((m : Int) + 1 == 0) = false := by simp; omega
    clear hm hnm hn1 hn2 hn3 hr1
    by_cases hc1 : c = 1
    · subst hc1
      obtain rfl : m = 0 := by omega
      rw [if_pos rfl] at HD
      go_enter Try.func30, Try.ntmps30
      go_wp2_with fail
      obtain ⟨w1, hw1⟩ : ∃ w1, w.alloc (.cells #[.slice none 0 0, .int .i64 0] 24) = w1 := ⟨_, rfl⟩
      obtain ⟨H, hH⟩ : ∃ H, w.heap.size = H := ⟨_, rfl⟩
      have Q1 : Hid (Below H w w1) := by rw [← hw1, ← hH]; exact bal (Below.refl _ _) _
      have Z1 : Hid (Blk w1 H 24 #[.slice none 0 0, .int .i64 0]) := by rw [← hw1, ← hH]; exact Blk.new _ _ _
      have hs1 : w1.heap.size = H + 1 := by rw [← hw1, ← hH]; simp
      have hc1 := (Q1.out.cell (p := ⟨b, off, none⟩) (by rw [← hH]; exact hb)).trans hc
      have hb1 : b < w1.heap.size := by omega
      have hc2 := (World.cell?_alloc_lt w1 (.cells #[.slice none 0 0, .int .i64 0] 24) ⟨b, off, none⟩ hb1).trans hc1
      have X1 : Hid (Bs w1 (some ⟨b, off, none⟩) 0 0 r) := HD.out.below (by rw [hH]; exact Q1.out)
      rw [hw1, hH]
      clear hw1 hc hb
      go_region
      go_wp2_with fail
      have K2 : Hid (Blk (w1.alloc (.cells #[.slice (some ⟨b, off, none⟩) 0 0, .int .i64 x.toNat] 24)).drew (H + 1) 24 #[.slice (some ⟨b, off, none⟩) 0 0, .int .i64 x.toNat]) := by rw [← hs1]; exact (Blk.new _ _ _).drewN 1
      have Z2 : Hid (Blk (w1.alloc (.cells #[.slice (some ⟨b, off, none⟩) 0 0, .int .i64 x.toNat] 24)).drew H 24 #[.slice none 0 0, .int .i64 0]) := (Z1.out.alloc _).drewN 1
      have Q2 : Hid (Below H w (w1.alloc (.cells #[.slice (some ⟨b, off, none⟩) 0 0, .int .i64 x.toNat] 24)).drew) := below_drewN (Q1.out.alloc (by omega) _) 1
      have X2 : Hid (Bs (w1.alloc (.cells #[.slice (some ⟨b, off, none⟩) 0 0, .int .i64 x.toNat] 24)).drew (some ⟨b, off, none⟩) 0 0 r) := (X1.out.alloc _).drewN 1
      have hs2 : (w1.alloc (.cells #[.slice (some ⟨b, off, none⟩) 0 0, .int .i64 x.toNat] 24)).drew.heap.size = H + 2 := by simp [hs1]
      generalize (w1.alloc (.cells #[.slice (some ⟨b, off, none⟩) 0 0, .int .i64 x.toNat] 24)).drew = w2 at *
      have k0 := K2.out.cell 0
      have k1 := K2.out.cell 1
      simp only [List.getElem?_toArray, List.getElem?_cons_zero, List.getElem?_cons_succ] at k0 k1
      clear hc1 hc2 hb1
      go_region_held3 (fun w' => w'.cell? ⟨H + 1, 0, none⟩ = some (.slice (some ⟨b, off, none⟩) 0 0) ∧ w'.cell? ⟨H + 1, 1, none⟩ = some (.int .i64 (x.toNat : Int))) (first | exact ⟨k0, k1⟩ | exact ⟨j0, j1⟩ | assumption | go_keep)
        (first | (go_at_call 13; (with_reducible refine (HV.out w2.drew _ _ X2.out.drew).mono ?_); rintro e w3 ⟨rfl, q3⟩; have Q3 := Lib.hid q3; have j0 := (q3.cell (p := ⟨H + 1, 0, none⟩) (by simp; omega)).trans k0; have j1 := (q3.cell (p := ⟨H + 1, 1, none⟩) (by simp; omega)).trans k1; have Z3 := Lib.hid ((Z2.out.drewN 1).below q3 (by simp; omega)); have z0 := Z3.out.cell 0; have z1 := Z3.out.cell 1; have zf := fun i => Z3.out.frozen i; have zl := Z3.out.lt; simp only [List.getElem?_toArray, List.getElem?_cons_zero, List.getElem?_cons_succ] at z0 z1))
      have B3 : Hid (Below H w w3) := Q2.out.drew.trans (Q3.out.mono (by simp; omega))
      have BF : Hid (Below H w ((w3.setCell ⟨H, 0, none⟩ (.slice (some ⟨b, off, none⟩) 0 0)).setCell ⟨H, 1, none⟩ (.int .i64 (x.toNat : Int)))) := (B3.out.setCell (Nat.le_refl _) _).setCell (Nat.le_refl _) _
      have ZF := Lib.hid ((Z3.out.set_ 0 (.slice (some ⟨b, off, none⟩) 0 0)).set_ 1 (.int .i64 (x.toNat : Int)))
      generalize (w3.setCell ⟨H, 0, none⟩ (.slice (some ⟨b, off, none⟩) 0 0)).setCell ⟨H, 1, none⟩ (.int .i64 (x.toNat : Int)) = w4 at *
      have y0 := ZF.out.cell 0
      have y1 := ZF.out.cell 1
      simp at y0 y1
      clear j0 j1 z0 z1 zf zl k0 k1
      go_wp2_with fail
      exact bodyPost_ret (v := .tuple #[.agg #[.slice (some ⟨b, off, none⟩) 0 0, .int .i64 (x.toNat : Int)], .bool (vB r x.toNat)]) (by simp [results, Try.results30, go_sem, y0, y1]) rfl ⟨_, _, rfl, HD.out.below (by rw [hH]; exact BF.out), by rw [hH]; exact BF.out⟩
    · rw [if_neg hc1] at HD
      have hc3 : ¬ c - 1 = 0 := by omega
      have hc4 : 2 ≤ c := by omega
      go_enter Try.func30, Try.ntmps30
      go_wp2_with fail
      obtain ⟨w1, hw1⟩ : ∃ w1, w.alloc (.cells #[.slice none 0 0, .int .i64 0] 24) = w1 := ⟨_, rfl⟩
      obtain ⟨H, hH⟩ : ∃ H, w.heap.size = H := ⟨_, rfl⟩
      have Q1 : Hid (Below H w w1) := by rw [← hw1, ← hH]; exact bal (Below.refl _ _) _
      have Z1 : Hid (Blk w1 H 24 #[.slice none 0 0, .int .i64 0]) := by rw [← hw1, ← hH]; exact Blk.new _ _ _
      have hs1 : w1.heap.size = H + 1 := by rw [← hw1, ← hH]; simp
      have hc1 := (Q1.out.cell (p := ⟨b, off, none⟩) (by rw [← hH]; exact hb)).trans hc
      have hb1 : b < w1.heap.size := by omega
      have hc2 := (World.cell?_alloc_lt w1 (.cells #[.slice none 0 0, .int .i64 0] 24) ⟨b, off, none⟩ hb1).trans hc1
      have X1 : Hid (Bs w1 (some ⟨b, off + 1, none⟩) m (c - 1) r) := HD.out.below (by rw [hH]; exact Q1.out)
      rw [hw1, hH]
      clear hw1 hc hb
      go_region
      go_wp2_with fail
      have K2 : Hid (Blk (w1.alloc (.cells #[.slice (some ⟨b, off + 1, none⟩) m (c - 1), .int .i64 x.toNat] 24)).drew (H + 1) 24 #[.slice (some ⟨b, off + 1, none⟩) m (c - 1), .int .i64 x.toNat]) := by rw [← hs1]; exact (Blk.new _ _ _).drewN 1
      have Z2 : Hid (Blk (w1.alloc (.cells #[.slice (some ⟨b, off + 1, none⟩) m (c - 1), .int .i64 x.toNat] 24)).drew H 24 #[.slice none 0 0, .int .i64 0]) := (Z1.out.alloc _).drewN 1
      have Q2 : Hid (Below H w (w1.alloc (.cells #[.slice (some ⟨b, off + 1, none⟩) m (c - 1), .int .i64 x.toNat] 24)).drew) := below_drewN (Q1.out.alloc (by omega) _) 1
      have X2 : Hid (Bs (w1.alloc (.cells #[.slice (some ⟨b, off + 1, none⟩) m (c - 1), .int .i64 x.toNat] 24)).drew (some ⟨b, off + 1, none⟩) m (c - 1) r) := (X1.out.alloc _).drewN 1
      have hs2 : (w1.alloc (.cells #[.slice (some ⟨b, off + 1, none⟩) m (c - 1), .int .i64 x.toNat] 24)).drew.heap.size = H + 2 := by simp [hs1]
      generalize (w1.alloc (.cells #[.slice (some ⟨b, off + 1, none⟩) m (c - 1), .int .i64 x.toNat] 24)).drew = w2 at *
      have k0 := K2.out.cell 0
      have k1 := K2.out.cell 1
      simp only [List.getElem?_toArray, List.getElem?_cons_zero, List.getElem?_cons_succ] at k0 k1
      clear hc1 hc2 hb1
      go_region_held3 (fun w' => w'.cell? ⟨H + 1, 0, none⟩ = some (.slice (some ⟨b, off + 1, none⟩) m (c - 1)) ∧ w'.cell? ⟨H + 1, 1, none⟩ = some (.int .i64 (x.toNat : Int))) (first | exact ⟨k0, k1⟩ | exact ⟨j0, j1⟩ | assumption | go_keep)
        (first | (go_at_call 13; (with_reducible refine (HV.out w2.drew _ _ X2.out.drew).mono ?_); rintro e w3 ⟨rfl, q3⟩; have Q3 := Lib.hid q3; have j0 := (q3.cell (p := ⟨H + 1, 0, none⟩) (by simp; omega)).trans k0; have j1 := (q3.cell (p := ⟨H + 1, 1, none⟩) (by simp; omega)).trans k1; have Z3 := Lib.hid ((Z2.out.drewN 1).below q3 (by simp; omega)); have z0 := Z3.out.cell 0; have z1 := Z3.out.cell 1; have zf := fun i => Z3.out.frozen i; have zl := Z3.out.lt; simp only [List.getElem?_toArray, List.getElem?_cons_zero, List.getElem?_cons_succ] at z0 z1))
      have B3 : Hid (Below H w w3) := Q2.out.drew.trans (Q3.out.mono (by simp; omega))
      have BF : Hid (Below H w ((w3.setCell ⟨H, 0, none⟩ (.slice (some ⟨b, off + 1, none⟩) m (c - 1))).setCell ⟨H, 1, none⟩ (.int .i64 (x.toNat : Int)))) := (B3.out.setCell (Nat.le_refl _) _).setCell (Nat.le_refl _) _
      have ZF := Lib.hid ((Z3.out.set_ 0 (.slice (some ⟨b, off + 1, none⟩) m (c - 1))).set_ 1 (.int .i64 (x.toNat : Int)))
      generalize (w3.setCell ⟨H, 0, none⟩ (.slice (some ⟨b, off + 1, none⟩) m (c - 1))).setCell ⟨H, 1, none⟩ (.int .i64 (x.toNat : Int)) = w4 at *
      have y0 := ZF.out.cell 0
      have y1 := ZF.out.cell 1
      simp at y0 y1
      clear j0 j1 z0 z1 zf zl k0 k1
      go_wp2_with fail
      exact bodyPost_ret (v := .tuple #[.agg #[.slice (some ⟨b, off + 1, none⟩) m (c - 1), .int .i64 (x.toNat : Int)], .bool (vB r x.toNat)]) (by simp [results, Try.results30, go_sem, y0, y1]) rfl ⟨_, _, rfl, HD.out.below (by rw [hH]; exact BF.out), by rw [hH]; exact BF.out⟩

set_option maxRecDepth 100000 in
set_option maxHeartbeats 2000000 in
theorem bdec_any {w : World} {a : Option Addr} {n c : Nat} {l : List UInt8} (h : Bs w a n c l) (hz : n ≤ 1000000) :
    Calls Try.prog 15 #[.slice a n c] w fun e w' => ∃ a' c', e = .returned (.tuple #[bV a' (bitsOf l).1.length c' (bitsOf l).2, .int .i64 (dbC l)]) ∧ Own w' w.heap.size 5 a' (bitsOf l).1.length c' (bitsOf l).1 ∧ Below w.heap.size w w' := by
  have HX := Lib.hid h
  have HI := Lib.hid (inside_any (h.alloc (.cells #[.slice none 0 0, .int .i64 0] 24)))
  have hl := h.len
  unfold bV at HI ⊢
  clear h
  obtain ⟨H, hH⟩ : ∃ H, w.heap.size = H := ⟨_, rfl⟩
  rcases hok : insOk l with _ | _
  · rw [hok] at HI
    rw [(bitsOf_no hok).1, (bitsOf_no hok).2]
    clear hok
    go_enter Try.func15, Try.ntmps15
    go_wp2_with fail
    with_reducible refine HI.out.mono ?_
    rintro e w1 ⟨a1, c1, rfl, hx, q⟩
    have Z1 : Hid (Blk w1 H 24 #[.slice none 0 0, .int .i64 0]) := by rw [← hH]; exact (Blk.new _ _ _).below q (by simp)
    have Q1 := Lib.hid (bthen (bal (Below.refl _ _) _) q)
    clear hx q
    obtain ⟨z0, z1, zl, zf⟩ := Z1.out.cells2
    go_wp2_with fail
    have ZF := Lib.hid ((Z1.out.two (.slice none 0 0) (.int .i64 0)).alloc (.cells #[.slice a1 (insB l).length c1, .int .i64 (insU l)] 24))
    have QF := Lib.hid (bal ((Q1.out.setCell (p := ⟨H, 0, none⟩) (Nat.le_of_eq hH) (.slice none 0 0)).setCell (p := ⟨H, 1, none⟩) (Nat.le_of_eq hH) (.int .i64 0)) (.cells #[.slice a1 (insB l).length c1, .int .i64 (insU l)] 24))
    clear z0 z1 zl zf
    generalize (World.alloc _ _) = w4 at *
    obtain ⟨z0, z1, _, _⟩ := ZF.out.cells2
    exact bodyPost_ret (v := .tuple #[.agg #[.slice none 0 0, .int .i64 0], .int .i64 6]) (by simp [results, Try.results15, go_sem, z0, z1]) rfl ⟨none, 0, rfl, World.ownsRow_nil _ _ _ _, QF.out⟩
  · rw [hok] at HI
    rw [(bitsOf_yes hok).1, (bitsOf_yes hok).2]
    clear hok
    go_enter Try.func15, Try.ntmps15
    go_wp2_with fail
    with_reducible refine HI.out.mono ?_
    rintro e w1 ⟨a1, c1, rfl, hx, q⟩
    have Z1 : Hid (Blk w1 H 24 #[.slice none 0 0, .int .i64 0]) := by rw [← hH]; exact (Blk.new _ _ _).below q (by simp)
    have Q1 := Lib.hid (bthen (bal (Below.refl _ _) _) q)
    obtain ⟨G, hG⟩ : ∃ G, w1.heap.size = G := ⟨_, rfl⟩
    have hGH : H < G := by rw [← hG]; exact Z1.out.lt
    have HC := Lib.hid (sclone_any (hx.alloc (.cells #[.slice a1 (insB l).length c1, .int .i64 (insU l)] 24)) (by have : (insB l).length ≤ l.length := by { unfold insB; simp }; omega))
    clear hx q
    go_wp2_with fail
    with_reducible refine HC.out.mono ?_
    rintro e w2 ⟨a2, c2, rfl, ho, q⟩
    have Z2 : Hid (Blk w2 H 24 #[.slice none 0 0, .int .i64 0]) := (Z1.out.alloc _).below q (by simp; omega)
    have Y2 : Hid (Blk w2 G 24 #[.slice a1 (insB l).length c1, .int .i64 (insU l)]) := by rw [← hG]; exact (Blk.new _ _ _).below q (by simp)
    have Q2 := Lib.hid (bthen (bal Q1.out _) q)
    have O2 := Lib.hid ho
    clear ho q
    obtain ⟨z0, z1, zl, zf⟩ := Z2.out.cells2
    obtain ⟨y0, y1, yl, yf⟩ := Y2.out.cells2
    go_wp2_with fail
    have O3 : Hid (Own w2 (G + 1) 5 a2 (insB l).length c2 (insB l)) := O2.out.more (by simp [hG])
    have hne : ∀ x, a2 = some x → x.block ≠ G ∧ x.block ≠ H := fun x hx => by have := (O3.out.base x hx).1; omega
    have Y3 := Lib.hid ((Z2.out.far (p := ⟨G, 0, none⟩) (by show H ≠ G; omega) (.slice a2 (insB l).length c2)).two (.slice a2 (insB l).length c2) (.int .i64 (insU l)))
    have O4 := Lib.hid (((O3.out.far (p := ⟨G, 0, none⟩) (fun x hx => (hne x hx).1) (.slice a2 (insB l).length c2)).far (p := ⟨H, 0, none⟩) (fun x hx => (hne x hx).2) (.slice a2 (insB l).length c2)).far (p := ⟨H, 1, none⟩) (fun x hx => (hne x hx).2) (.int .i64 (insU l)))
    have QF := Lib.hid (((Q2.out.setCell (p := ⟨G, 0, none⟩) (by show w.heap.size ≤ G; omega) (.slice a2 (insB l).length c2)).setCell (p := ⟨H, 0, none⟩) (Nat.le_of_eq hH) (.slice a2 (insB l).length c2)).setCell (p := ⟨H, 1, none⟩) (Nat.le_of_eq hH) (.int .i64 (insU l)))
    clear z0 z1 zl zf y0 y1 yl yf
    generalize (World.setCell _ ⟨H, 1, none⟩ _) = w4 at *
    obtain ⟨z0, z1, _, _⟩ := Y3.out.cells2
    exact bodyPost_ret (v := .tuple #[.agg #[.slice a2 (insB l).length c2, .int .i64 (insU l)], .int .i64 0]) (by simp [results, Try.results15, go_sem, z0, z1]) rfl ⟨a2, c2, rfl, O4.out.more (by omega), QF.out⟩
end Go.Proofs.Ytfflfahhfhnkdaa
