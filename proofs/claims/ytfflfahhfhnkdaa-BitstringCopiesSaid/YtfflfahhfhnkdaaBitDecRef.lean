/-
  Contract of Decode, of the reference.
-/
import Derived.Test.YtfflfahhfhnkdaaBitDec
namespace Go.Proofs.Ytfflfahhfhnkdaa
open Go.RowKit

set_option maxRecDepth 100000 in
set_option maxHeartbeats 2000000 in
theorem ref_bdec_part {w : World} {a : Option Addr} {n c : Nat} {l : List UInt8} (h : Bs w a n c l) :
    Calls Try.prog 17 #[.slice a n c] w fun e w' => ∃ a' c', e = .returned (.tuple #[bV a' (bitsOf l).1.length c' (bitsOf l).2, .int .i64 (dbC l)]) ∧ Bs w' a' (bitsOf l).1.length c' (bitsOf l).1 ∧ (∀ x, a' = some x → ∃ y, a = some y ∧ x.block = y.block ∧ 0 < n) ∧ Below w.heap.size w w' := by
  unfold bV
  have HX := Lib.hid h
  have hl := h.len
  have hnm : (n : Int) ≤ 9223372036854775807 := by have := h.2.1; have := h.2.2.1; unfold maxLen at this; omega
  have hnc := h.2.1
  clear h
  rcases l with _ | ⟨x, r⟩
  · simp only [List.length_nil] at hl
    subst hl
    rw [(bitsOf_no ins_nil.1).1, (bitsOf_no ins_nil.1).2]
    go_enter Try.func17, Try.ntmps17
    go_wp2_with fail
    exact bodyPost_ret (v := .tuple #[.agg #[.slice none 0 0, .int .i64 0], .int .i64 6]) (by simp [results, Try.results17, go_sem]) rfl ⟨none, 0, rfl, Bs.nil_ _, (fun x h => by cases h), bal (Below.refl _ _) _⟩
  · simp only [List.length_cons] at hl
    obtain ⟨b, off, _, rfl, hb, hc⟩ := HX.out.at_ (i := 0) (by omega)
    simp only [List.getElem_cons_zero, Nat.add_zero] at hc
    have hxb := byte_bd x
    have HD : Hid (Bs w (if c = 1 then some ⟨b, off, none⟩ else some ⟨b, off + 1, none⟩) r.length (c - 1) r) := by
      have := bs_drop HX.out (i := 1) (by omega)
      rw [show n - 1 = r.length from by omega] at this
      exact this
    have HOK := Lib.hid (ins_cons x r).1
    have hres : ∀ ok, vB r x.toNat = ok → bitsOf (x :: r) = (if ok = true then (r, x.toNat) else ([], 0)) ∧ dbC (x :: r) = if ok = true then 0 else 6 := by
      intro ok hok
      cases ok
      · exact bitsOf_no (by rw [(ins_cons x r).1, hok])
      · exact bitsOf_yes (by rw [(ins_cons x r).1, hok])
    obtain ⟨m, hm⟩ : ∃ m, r.length = m := ⟨_, rfl⟩
    have HM := Lib.hid hm
    rw [hm] at HD hl
    subst hl
    have HV := Lib.hid (fun W A C (hx : Bs W A m C r) => ref_bvalid_any hx x.toNat)
    unfold bV at HV
    have hm1 : (m : Int) + 1 ≤ 9223372036854775807 := by omega
    have hm2 : ((m : Int) + 1 == 0) = false := by simp; omega
    clear hm hnm
    obtain ⟨ok, hok⟩ : ∃ ok, vB r x.toNat = ok := ⟨_, rfl⟩
    rw [(hres ok hok).1, (hres ok hok).2]
    rw [hok] at HV
    clear hres hok
    by_cases hc1 : c = 1
    · subst hc1
      obtain rfl : m = 0 := by omega
      rw [if_pos rfl] at HD
      go_enter Try.func17, Try.ntmps17
      go_wp2_with fail
      obtain ⟨w1, hw1⟩ : ∃ w1, w.alloc (.cells #[.slice none 0 0, .int .i64 0] 24) = w1 := ⟨_, rfl⟩
      obtain ⟨H, hH⟩ : ∃ H, w.heap.size = H := ⟨_, rfl⟩
      have Q1 : Hid (Below H w w1) := by rw [← hw1, ← hH]; exact bal (Below.refl _ _) _
      have Z1 : Hid (Blk w1 H 24 #[.slice none 0 0, .int .i64 0]) := by rw [← hw1, ← hH]; exact Blk.new _ _ _
      have hs1 : w1.heap.size = H + 1 := by rw [← hw1, ← hH]; simp
      have hc1 := (Q1.out.cell (p := ⟨b, off, none⟩) (by rw [← hH]; exact hb)).trans hc
      have hb1 : b < w1.heap.size := by omega
      have hc2 := (World.cell?_alloc_lt w1 (.cells #[.slice none 0 0, .int .i64 0] 24) ⟨b, off, none⟩ hb1).trans hc1
      have X1 : Hid (Bs w1 (some ⟨b, off, none⟩) 0 0 r) := HD.out.below (by rw [hH]; exact Q1.out)
      rw [hw1, hH]
      clear hw1 hc hb
      go_region
      go_wp2_with fail
      have K2 : Hid (Blk (w1.alloc (.cells #[.slice (some ⟨b, off, none⟩) 0 0, .int .i64 x.toNat] 24)).drew (H + 1) 24 #[.slice (some ⟨b, off, none⟩) 0 0, .int .i64 x.toNat]) := by rw [← hs1]; exact (Blk.new _ _ _).drewN 1
      have Z2 : Hid (Blk (w1.alloc (.cells #[.slice (some ⟨b, off, none⟩) 0 0, .int .i64 x.toNat] 24)).drew H 24 #[.slice none 0 0, .int .i64 0]) := (Z1.out.alloc _).drewN 1
      have Q2 : Hid (Below H w (w1.alloc (.cells #[.slice (some ⟨b, off, none⟩) 0 0, .int .i64 x.toNat] 24)).drew) := below_drewN (Q1.out.alloc (by omega) _) 1
      have X2 : Hid (Bs (w1.alloc (.cells #[.slice (some ⟨b, off, none⟩) 0 0, .int .i64 x.toNat] 24)).drew (some ⟨b, off, none⟩) 0 0 r) := (X1.out.alloc _).drewN 1
      have hs2 : (w1.alloc (.cells #[.slice (some ⟨b, off, none⟩) 0 0, .int .i64 x.toNat] 24)).drew.heap.size = H + 2 := by simp [hs1]
      generalize (w1.alloc (.cells #[.slice (some ⟨b, off, none⟩) 0 0, .int .i64 x.toNat] 24)).drew = w2 at *
      clear hc1 hc2 hb1
      with_reducible refine (HV.out w2 _ _ X2.out).mono ?_
      rintro e w3 ⟨rfl, q3⟩
      have Q3 : Hid (Below H w w3) := Q2.out.trans (q3.mono (by omega))
      have K3 := Lib.hid (K2.out.below q3 (by omega))
      have Z3 := Lib.hid (Z2.out.below q3 (by omega))
      clear q3
      obtain ⟨z0, z1, zl, zf⟩ := Z3.out.cells2
      obtain ⟨k0, k1, kl, kf⟩ := K3.out.cells2
      clear hm1 hm2 hnc hxb
      cases ok
      · have ZF := Lib.hid (Z3.out.two (.slice none 0 0) (.int .i64 0))
        have QF : Hid (Below H w ((w3.setCell ⟨H, 0, none⟩ (.slice none 0 0)).setCell ⟨H, 1, none⟩ (.int .i64 0))) := (Q3.out.setCell (Nat.le_refl _) _).setCell (Nat.le_refl _) _
        go_wp2_with fail
        generalize (w3.setCell ⟨H, 0, none⟩ (.slice none 0 0)).setCell ⟨H, 1, none⟩ (.int .i64 0) = w4 at *
        obtain ⟨y0, y1, _, _⟩ := ZF.out.cells2
        exact bodyPost_ret (v := .tuple #[.agg #[.slice none 0 0, .int .i64 0], .int .i64 6]) (by simp [results, Try.results17, go_sem, y0, y1]) rfl ⟨none, 0, rfl, Bs.nil_ _, (fun x h => by cases h), by first | exact QF.out | (rw [hH]; exact QF.out)⟩
      · have ZF := Lib.hid (Z3.out.two (.slice (some ⟨b, off, none⟩) 0 0) (.int .i64 (x.toNat : Int)))
        have QF : Hid (Below H w ((w3.setCell ⟨H, 0, none⟩ (.slice (some ⟨b, off, none⟩) 0 0)).setCell ⟨H, 1, none⟩ (.int .i64 (x.toNat : Int)))) := (Q3.out.setCell (Nat.le_refl _) _).setCell (Nat.le_refl _) _
        go_wp2_with fail
        generalize (w3.setCell ⟨H, 0, none⟩ (.slice (some ⟨b, off, none⟩) 0 0)).setCell ⟨H, 1, none⟩ (.int .i64 (x.toNat : Int)) = w4 at *
        obtain ⟨y0, y1, _, _⟩ := ZF.out.cells2
        exact bodyPost_ret (v := .tuple #[.agg #[.slice (some ⟨b, off, none⟩) 0 0, .int .i64 (x.toNat : Int)], .int .i64 0]) (by simp [results, Try.results17, go_sem, y0, y1]) rfl ⟨some ⟨b, off, none⟩, 0, by rw [HM.out], by rw [HM.out]; exact HD.out.below (by first | exact QF.out | (rw [hH]; exact QF.out)), (fun x hx => by injection hx with hx; subst hx; first | exact ⟨_, rfl, rfl, by omega⟩ | rfl), by first | exact QF.out | (rw [hH]; exact QF.out)⟩
    · rw [if_neg hc1] at HD
      have hc3 : ¬ c - 1 = 0 := by omega
      have hc4 : 2 ≤ c := by omega
      go_enter Try.func17, Try.ntmps17
      go_wp2_with fail
      obtain ⟨w1, hw1⟩ : ∃ w1, w.alloc (.cells #[.slice none 0 0, .int .i64 0] 24) = w1 := ⟨_, rfl⟩
      obtain ⟨H, hH⟩ : ∃ H, w.heap.size = H := ⟨_, rfl⟩
      have Q1 : Hid (Below H w w1) := by rw [← hw1, ← hH]; exact bal (Below.refl _ _) _
      have Z1 : Hid (Blk w1 H 24 #[.slice none 0 0, .int .i64 0]) := by rw [← hw1, ← hH]; exact Blk.new _ _ _
      have hs1 : w1.heap.size = H + 1 := by rw [← hw1, ← hH]; simp
      have hc1 := (Q1.out.cell (p := ⟨b, off, none⟩) (by rw [← hH]; exact hb)).trans hc
      have hb1 : b < w1.heap.size := by omega
      have hc2 := (World.cell?_alloc_lt w1 (.cells #[.slice none 0 0, .int .i64 0] 24) ⟨b, off, none⟩ hb1).trans hc1
      have X1 : Hid (Bs w1 (some ⟨b, off + 1, none⟩) m (c - 1) r) := HD.out.below (by rw [hH]; exact Q1.out)
      rw [hw1, hH]
      clear hw1 hc hb
      go_region
      go_wp2_with fail
      have K2 : Hid (Blk (w1.alloc (.cells #[.slice (some ⟨b, off + 1, none⟩) m (c - 1), .int .i64 x.toNat] 24)).drew (H + 1) 24 #[.slice (some ⟨b, off + 1, none⟩) m (c - 1), .int .i64 x.toNat]) := by rw [← hs1]; exact (Blk.new _ _ _).drewN 1
      have Z2 : Hid (Blk (w1.alloc (.cells #[.slice (some ⟨b, off + 1, none⟩) m (c - 1), .int .i64 x.toNat] 24)).drew H 24 #[.slice none 0 0, .int .i64 0]) := (Z1.out.alloc _).drewN 1
      have Q2 : Hid (Below H w (w1.alloc (.cells #[.slice (some ⟨b, off + 1, none⟩) m (c - 1), .int .i64 x.toNat] 24)).drew) := below_drewN (Q1.out.alloc (by omega) _) 1
      have X2 : Hid (Bs (w1.alloc (.cells #[.slice (some ⟨b, off + 1, none⟩) m (c - 1), .int .i64 x.toNat] 24)).drew (some ⟨b, off + 1, none⟩) m (c - 1) r) := (X1.out.alloc _).drewN 1
      have hs2 : (w1.alloc (.cells #[.slice (some ⟨b, off + 1, none⟩) m (c - 1), .int .i64 x.toNat] 24)).drew.heap.size = H + 2 := by simp [hs1]
      generalize (w1.alloc (.cells #[.slice (some ⟨b, off + 1, none⟩) m (c - 1), .int .i64 x.toNat] 24)).drew = w2 at *
      clear hc1 hc2 hb1
      with_reducible refine (HV.out w2 _ _ X2.out).mono ?_
      rintro e w3 ⟨rfl, q3⟩
      have Q3 : Hid (Below H w w3) := Q2.out.trans (q3.mono (by omega))
      have K3 := Lib.hid (K2.out.below q3 (by omega))
      have Z3 := Lib.hid (Z2.out.below q3 (by omega))
      clear q3
      obtain ⟨z0, z1, zl, zf⟩ := Z3.out.cells2
      obtain ⟨k0, k1, kl, kf⟩ := K3.out.cells2
      clear hm1 hm2 hnc hxb
      cases ok
      · have ZF := Lib.hid (Z3.out.two (.slice none 0 0) (.int .i64 0))
        have QF : Hid (Below H w ((w3.setCell ⟨H, 0, none⟩ (.slice none 0 0)).setCell ⟨H, 1, none⟩ (.int .i64 0))) := (Q3.out.setCell (Nat.le_refl _) _).setCell (Nat.le_refl _) _
        go_wp2_with fail
        generalize (w3.setCell ⟨H, 0, none⟩ (.slice none 0 0)).setCell ⟨H, 1, none⟩ (.int .i64 0) = w4 at *
        obtain ⟨y0, y1, _, _⟩ := ZF.out.cells2
        exact bodyPost_ret (v := .tuple #[.agg #[.slice none 0 0, .int .i64 0], .int .i64 6]) (by simp [results, Try.results17, go_sem, y0, y1]) rfl ⟨none, 0, rfl, Bs.nil_ _, (fun x h => by cases h), by first | exact QF.out | (rw [hH]; exact QF.out)⟩
      · have ZF := Lib.hid (Z3.out.two (.slice (some ⟨b, off + 1, none⟩) m (c - 1)) (.int .i64 (x.toNat : Int)))
        have QF : Hid (Below H w ((w3.setCell ⟨H, 0, none⟩ (.slice (some ⟨b, off + 1, none⟩) m (c - 1))).setCell ⟨H, 1, none⟩ (.int .i64 (x.toNat : Int)))) := (Q3.out.setCell (Nat.le_refl _) _).setCell (Nat.le_refl _) _
        go_wp2_with fail
        generalize (w3.setCell ⟨H, 0, none⟩ (.slice (some ⟨b, off + 1, none⟩) m (c - 1))).setCell ⟨H, 1, none⟩ (.int .i64 (x.toNat : Int)) = w4 at *
        obtain ⟨y0, y1, _, _⟩ := ZF.out.cells2
        exact bodyPost_ret (v := .tuple #[.agg #[.slice (some ⟨b, off + 1, none⟩) m (c - 1), .int .i64 (x.toNat : Int)], .int .i64 0]) (by simp [results, Try.results17, go_sem, y0, y1]) rfl ⟨some ⟨b, off + 1, none⟩, (c - 1), by rw [HM.out], by rw [HM.out]; exact HD.out.below (by first | exact QF.out | (rw [hH]; exact QF.out)), (fun x hx => by injection hx with hx; subst hx; first | exact ⟨_, rfl, rfl, by omega⟩ | rfl), by first | exact QF.out | (rw [hH]; exact QF.out)⟩
theorem ref_bdec_any {w : World} {a : Option Addr} {n c : Nat} {l : List UInt8} (h : Bs w a n c l) :
    Calls Try.prog 17 #[.slice a n c] w fun e w' => ∃ a' c', e = .returned (.tuple #[bV a' (bitsOf l).1.length c' (bitsOf l).2, .int .i64 (dbC l)]) ∧ Bs w' a' (bitsOf l).1.length c' (bitsOf l).1 ∧ Below w.heap.size w w' :=
  (ref_bdec_part h).mono fun _ _ ⟨a', c', h1, h2, _, h3⟩ => ⟨a', c', h1, h2, h3⟩
end Go.Proofs.Ytfflfahhfhnkdaa
