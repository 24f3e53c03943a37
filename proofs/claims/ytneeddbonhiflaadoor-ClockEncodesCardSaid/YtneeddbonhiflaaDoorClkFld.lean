/-
  Contract of the program's fields.
-/
import Derived.Test.YtneeddbonhiflaaDoorClkChk
namespace Go.Proofs.YtneeddbonhiflaaDoor
open Go.RowKit

theorem good_all (K : Nat) (l : List UInt8) : (l.take (K + 10)).all isDg = ((((((true && (l.take K).all isDg) && ((l.drop K).take 2).all isDg) && (((l.drop K).drop 2).take 2).all isDg) && ((((l.drop K).drop 2).drop 2).take 2).all isDg) && (((((l.drop K).drop 2).drop 2).drop 2).take 2).all isDg) && ((((((l.drop K).drop 2).drop 2).drop 2).drop 2).take 2).all isDg) := by
  have e : K + 10 = K + (2 + (2 + (2 + (2 + 2)))) := rfl
  rw [e]
  simp only [List.take_add, List.all_append, Bool.true_and, Bool.and_assoc]
theorem fld_num (K : Nat) (l : List UInt8) (h : (l.take (K + 10)).all isDg = true) : Tm.mk (numP (l.take K)) (numP ((l.drop K).take 2)) (numP (((l.drop K).drop 2).take 2)) (numP ((((l.drop K).drop 2).drop 2).take 2)) (numP (((((l.drop K).drop 2).drop 2).drop 2).take 2)) (numP ((((((l.drop K).drop 2).drop 2).drop 2).drop 2).take 2)) = fldO (numO (l.take K)) l K := by
  rw [good_all] at h
  simp only [Bool.and_eq_true] at h
  obtain ⟨⟨⟨⟨⟨⟨_, h0⟩, h1⟩, h2⟩, h3⟩, h4⟩, h5⟩ := h
  rw [numP_dg _ _ rfl h0, numP_dg _ _ rfl h1, numP_dg _ _ rfl h2, numP_dg _ _ rfl h3, numP_dg _ _ rfl h4, numP_dg _ _ rfl h5]
  unfold fldO
  simp only [List.drop_drop, Nat.add_assoc]
theorem next_at {w : World} {M gc ga g off n c k : Nat} {l : List UInt8} {b : Bool} {kk : Int} (hkk : (k : Int) = kk) (hx : Bs w (some ⟨g, off, none⟩) n c l) (hc : Blk w gc 25 #[.slice (some ⟨g, off, none⟩) n c]) (ha : Blk w ga 4 #[.bool b])
    (hk0 : 0 < k) (hk : k < n) (hk4 : k ≤ 4) (hg : g < M) (h1 : M ≤ gc) (h2 : M ≤ ga) (h3 : gc ≠ ga) :
    Calls Tryd.prog 40 #[.int .i64 kk, .pointer (some ⟨gc, 0, none⟩), .pointer (some ⟨ga, 0, none⟩)] w fun e w' => e = .returned (.int .i64 (numP (l.take k))) ∧ Bs w' (some ⟨g, off + k, none⟩) (n - k) (c - k) (l.drop k) ∧ Blk w' gc 25 #[.slice (some ⟨g, off + k, none⟩) (n - k) (c - k)] ∧ Blk w' ga 4 #[.bool (b && (l.take k).all isDg)] ∧ Oth gc ga w w' := by
  subst hkk
  exact next_any hx hc ha hk0 hk hk4 hg h1 h2 h3
/-- a block that is there when another is laid behind it -/
theorem below_lt {B : Nat} {a w : World} (_ : Below B a w) {p : Addr} (hp : B ≤ p.block) (v : Value) : Below B w (w.setCell p v) := (Below.refl B w).setCell hp v

set_option maxRecDepth 100000 in
set_option maxHeartbeats 8000000 in
theorem pfld_no2 {w : World} {a : Option Addr} {n c : Nat} {l : List UInt8} (hx : Bs w a n c l) (hb : n ≠ 13 ∨ (n = 13 ∧ ¬ l[12]? = some 90)) :
    Calls Tryd.prog 31 #[.slice a n c, .int .i64 2] w fun e w' => e = .returned (.tuple #[tmV tm0, .bool false]) ∧ Below w.heap.size w w' := by
  obtain ⟨w2, hw2⟩ : ∃ w2, (w.alloc (.cells #[.slice a n c] 25)).alloc (.cells #[.int .i64 0, .int .i64 0, .int .i64 0, .int .i64 0, .int .i64 0, .int .i64 0] 23) = w2 := ⟨_, rfl⟩
  obtain ⟨A, hA⟩ : ∃ A, w.heap.size = A := ⟨_, rfl⟩
  have C2 : Hid (Blk w2 A 25 #[.slice a n c]) := by
    rw [← hw2, ← hA]
    exact (Blk.new w 25 #[.slice a n c]).alloc (.cells #[.int .i64 0, .int .i64 0, .int .i64 0, .int .i64 0, .int .i64 0, .int .i64 0] 23)
  have R2 : Hid (Blk w2 (A + 1) 23 #[.int .i64 0, .int .i64 0, .int .i64 0, .int .i64 0, .int .i64 0, .int .i64 0]) := by
    rw [← hw2, ← hA]
    have := Blk.new (w.alloc (.cells #[.slice a n c] 25)) 23 #[.int .i64 0, .int .i64 0, .int .i64 0, .int .i64 0, .int .i64 0, .int .i64 0]
    rw [Hid]
    simpa using this
  have Q2 : Hid (Below A w w2) := by
    rw [← hw2, ← hA]
    exact bal (bal (Below.refl _ _) _) _
  have X2 : Hid (Bs w2 a n c l) := by
    rw [← hw2]
    exact (hx.alloc _).alloc _
  have S2 : Hid (w2.heap.size = A + 1 + 1) := by
    rw [← hw2, ← hA, Hid]
    simp
  obtain ⟨H, hH⟩ : ∃ H, A + 1 = H := ⟨_, rfl⟩
  rw [hH] at R2 S2
  have HLE : Hid (A < H) := by rw [Hid]; omega
  obtain ⟨r0, r1, r2, r3, r4, r5⟩ := R2.out.cells6
  have c0 : w2.cell? ⟨A, 0, none⟩ = some (.slice a n c) := by simpa using C2.out.cell 0
  have rl := R2.out.lt
  have rf := R2.out.frozen
  have hn := hx.2.1
  have hlen := hx.len
  have hcm : c ≤ 9223372036854775807 := by have := hx.2.2.1; unfold maxLen at this; omega
  unfold tmV tm0
  rw [hA]
  have ZF := Lib.hid (R2.out.six (.int .i64 0) (.int .i64 0) (.int .i64 0) (.int .i64 0) (.int .i64 0) (.int .i64 0))
  have QF := Lib.hid (below_six Q2.out (Nat.le_of_lt HLE.out) (.int .i64 0) (.int .i64 0) (.int .i64 0) (.int .i64 0) (.int .i64 0) (.int .i64 0))
  by_cases hne : n = 13
  · obtain ⟨b, off, hi, rfl, hbl, hc⟩ := X2.out.at_ (i := 12) (by omega)
    subst hne
    have hxx : ¬ l[12] = 90 := by
      rcases hb with hb | ⟨_, hb⟩
      · exact absurd rfl hb
      · intro e
        exact hb (by rw [List.getElem?_eq_getElem hi, e])
    have hb2 := byte_bd l[12]
    have hx3 : ((l[12].toNat : Int) != 90) = true := by
      rw [bne_iff_ne]
      intro e
      apply hxx
      apply UInt8.toNat_inj.1
      show _ = 90
      omega
    clear hb hxx hx
    generalize l[12] = x at *
    go_enter Tryd.func31, Tryd.ntmps31
    go_wp2_with fail
    obtain ⟨y0, y1, y2, y3, y4, y5⟩ := ZF.out.cells6
    have q := QF.out
    generalize ((((((w2.setCell ⟨H, 0, none⟩ (.int .i64 0)).setCell ⟨H, 1, none⟩ (.int .i64 0)).setCell ⟨H, 2, none⟩ (.int .i64 0)).setCell ⟨H, 3, none⟩ (.int .i64 0)).setCell ⟨H, 4, none⟩ (.int .i64 0)).setCell ⟨H, 5, none⟩ (.int .i64 0)) = w9 at *
    exact bodyPost_ret (v := .tuple #[.agg #[.int .i64 0, .int .i64 0, .int .i64 0, .int .i64 0, .int .i64 0, .int .i64 0], .bool false]) (by simp [results, Tryd.results31, go_sem, y0, y1, y2, y3, y4, y5]) rfl ⟨rfl, q⟩
  · have hn3 : ((n : Int) != 13) = true := by
      rw [bne_iff_ne]
      omega
    clear hb hx
    go_enter Tryd.func31, Tryd.ntmps31
    go_wp2_with fail
    obtain ⟨y0, y1, y2, y3, y4, y5⟩ := ZF.out.cells6
    have q := QF.out
    generalize ((((((w2.setCell ⟨H, 0, none⟩ (.int .i64 0)).setCell ⟨H, 1, none⟩ (.int .i64 0)).setCell ⟨H, 2, none⟩ (.int .i64 0)).setCell ⟨H, 3, none⟩ (.int .i64 0)).setCell ⟨H, 4, none⟩ (.int .i64 0)).setCell ⟨H, 5, none⟩ (.int .i64 0)) = w9 at *
    exact bodyPost_ret (v := .tuple #[.agg #[.int .i64 0, .int .i64 0, .int .i64 0, .int .i64 0, .int .i64 0, .int .i64 0], .bool false]) (by simp [results, Tryd.results31, go_sem, y0, y1, y2, y3, y4, y5]) rfl ⟨rfl, q⟩

set_option maxRecDepth 100000 in
set_option maxHeartbeats 8000000 in
theorem pfld_no4 {w : World} {a : Option Addr} {n c : Nat} {l : List UInt8} (hx : Bs w a n c l) (hb : n ≠ 15 ∨ (n = 15 ∧ ¬ l[14]? = some 90)) :
    Calls Tryd.prog 31 #[.slice a n c, .int .i64 4] w fun e w' => e = .returned (.tuple #[tmV tm0, .bool false]) ∧ Below w.heap.size w w' := by
  obtain ⟨w2, hw2⟩ : ∃ w2, (w.alloc (.cells #[.slice a n c] 25)).alloc (.cells #[.int .i64 0, .int .i64 0, .int .i64 0, .int .i64 0, .int .i64 0, .int .i64 0] 23) = w2 := ⟨_, rfl⟩
  obtain ⟨A, hA⟩ : ∃ A, w.heap.size = A := ⟨_, rfl⟩
  have C2 : Hid (Blk w2 A 25 #[.slice a n c]) := by
    rw [← hw2, ← hA]
    exact (Blk.new w 25 #[.slice a n c]).alloc (.cells #[.int .i64 0, .int .i64 0, .int .i64 0, .int .i64 0, .int .i64 0, .int .i64 0] 23)
  have R2 : Hid (Blk w2 (A + 1) 23 #[.int .i64 0, .int .i64 0, .int .i64 0, .int .i64 0, .int .i64 0, .int .i64 0]) := by
    rw [← hw2, ← hA]
    have := Blk.new (w.alloc (.cells #[.slice a n c] 25)) 23 #[.int .i64 0, .int .i64 0, .int .i64 0, .int .i64 0, .int .i64 0, .int .i64 0]
    rw [Hid]
    simpa using this
  have Q2 : Hid (Below A w w2) := by
    rw [← hw2, ← hA]
    exact bal (bal (Below.refl _ _) _) _
  have X2 : Hid (Bs w2 a n c l) := by
    rw [← hw2]
    exact (hx.alloc _).alloc _
  have S2 : Hid (w2.heap.size = A + 1 + 1) := by
    rw [← hw2, ← hA, Hid]
    simp
  obtain ⟨H, hH⟩ : ∃ H, A + 1 = H := ⟨_, rfl⟩
  rw [hH] at R2 S2
  have HLE : Hid (A < H) := by rw [Hid]; omega
  obtain ⟨r0, r1, r2, r3, r4, r5⟩ := R2.out.cells6
  have c0 : w2.cell? ⟨A, 0, none⟩ = some (.slice a n c) := by simpa using C2.out.cell 0
  have rl := R2.out.lt
  have rf := R2.out.frozen
  have hn := hx.2.1
  have hlen := hx.len
  have hcm : c ≤ 9223372036854775807 := by have := hx.2.2.1; unfold maxLen at this; omega
  unfold tmV tm0
  rw [hA]
  have ZF := Lib.hid (R2.out.six (.int .i64 0) (.int .i64 0) (.int .i64 0) (.int .i64 0) (.int .i64 0) (.int .i64 0))
  have QF := Lib.hid (below_six Q2.out (Nat.le_of_lt HLE.out) (.int .i64 0) (.int .i64 0) (.int .i64 0) (.int .i64 0) (.int .i64 0) (.int .i64 0))
  by_cases hne : n = 15
  · obtain ⟨b, off, hi, rfl, hbl, hc⟩ := X2.out.at_ (i := 14) (by omega)
    subst hne
    have hxx : ¬ l[14] = 90 := by
      rcases hb with hb | ⟨_, hb⟩
      · exact absurd rfl hb
      · intro e
        exact hb (by rw [List.getElem?_eq_getElem hi, e])
    have hb2 := byte_bd l[14]
    have hx3 : ((l[14].toNat : Int) != 90) = true := by
      rw [bne_iff_ne]
      intro e
      apply hxx
      apply UInt8.toNat_inj.1
      show _ = 90
      omega
    clear hb hxx hx
    generalize l[14] = x at *
    go_enter Tryd.func31, Tryd.ntmps31
    go_wp2_with fail
    obtain ⟨y0, y1, y2, y3, y4, y5⟩ := ZF.out.cells6
    have q := QF.out
    generalize ((((((w2.setCell ⟨H, 0, none⟩ (.int .i64 0)).setCell ⟨H, 1, none⟩ (.int .i64 0)).setCell ⟨H, 2, none⟩ (.int .i64 0)).setCell ⟨H, 3, none⟩ (.int .i64 0)).setCell ⟨H, 4, none⟩ (.int .i64 0)).setCell ⟨H, 5, none⟩ (.int .i64 0)) = w9 at *
    exact bodyPost_ret (v := .tuple #[.agg #[.int .i64 0, .int .i64 0, .int .i64 0, .int .i64 0, .int .i64 0, .int .i64 0], .bool false]) (by simp [results, Tryd.results31, go_sem, y0, y1, y2, y3, y4, y5]) rfl ⟨rfl, q⟩
  · have hn3 : ((n : Int) != 15) = true := by
      rw [bne_iff_ne]
      omega
    clear hb hx
    go_enter Tryd.func31, Tryd.ntmps31
    go_wp2_with fail
    obtain ⟨y0, y1, y2, y3, y4, y5⟩ := ZF.out.cells6
    have q := QF.out
    generalize ((((((w2.setCell ⟨H, 0, none⟩ (.int .i64 0)).setCell ⟨H, 1, none⟩ (.int .i64 0)).setCell ⟨H, 2, none⟩ (.int .i64 0)).setCell ⟨H, 3, none⟩ (.int .i64 0)).setCell ⟨H, 4, none⟩ (.int .i64 0)).setCell ⟨H, 5, none⟩ (.int .i64 0)) = w9 at *
    exact bodyPost_ret (v := .tuple #[.agg #[.int .i64 0, .int .i64 0, .int .i64 0, .int .i64 0, .int .i64 0, .int .i64 0], .bool false]) (by simp [results, Tryd.results31, go_sem, y0, y1, y2, y3, y4, y5]) rfl ⟨rfl, q⟩
end Go.Proofs.YtneeddbonhiflaaDoor
