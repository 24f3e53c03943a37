/-
  Contracts of digits (of radix), and of the library's bytes.TrimLeft of zero bytes.
-/
import Derived.Test.YtammegdfjgphkaaDoorIntRow
import Derived.Test.YtammegdfjgphkaaDoorMinMath
namespace Go.Proofs.YtammegdfjgphkaaDoor
open Go.RowKit

theorem trim_zero (l : List UInt8) : trimZ (0 :: l) = trimZ l := by
  show (if (0 : UInt8) = 0 then _ else _) = _
  rw [if_pos rfl]
theorem trim_keep {x : UInt8} (h : x ≠ 0) (l : List UInt8) : trimZ (x :: l) = x :: l := by
  show (if x = 0 then _ else _) = _
  rw [if_neg h]

set_option maxHeartbeats 1000000 in
theorem trimLeftByte_any {w : World} {a : Option Addr} {n c : Nat} {l : List UInt8} (h : Bs w a n c l) :
    Calls Tryd.prog 62 #[.slice a n c, .int .u8 0] w fun e w' => (∃ a' c', e = .returned (.slice a' (trimZ l).length c') ∧ Bs w a' (trimZ l).length c' (trimZ l) ∧ PartOf a' a) ∧ w = w' := by
  go_enter Tryd.func62, Tryd.ntmps62
  go_wp2
  go_loop [0] (fun v => ∃ a' n' c' l', v = .slice a' n' c' ∧ Bs w a' n' c' l' ∧ trimZ l' = trimZ l ∧ PartOf a' a) (fun v => lenOfV v)
  case atStart => exact ⟨a, n, c, l, rfl, h, rfl, PartOf.refl _⟩
  case round =>
    obtain ⟨a', n', c', l', rfl, hb, he, hp⟩ := hrel
    have HE := Lib.hid he
    have HP := Lib.hid hp
    have HL := Lib.hid hb.len
    have hcc := hb.2.1
    have hcm := hb.2.2.1
    unfold maxLen at hcm
    have HBS := Lib.hid hb
    clear he hp hb
    rcases l' with _ | ⟨x, r⟩
    · have hn0 : n' = 0 := by have := HL.out; simpa using this.symm
      subst hn0
      go_wp2
      go_ret
      rw [← HE.out]
      exact ⟨⟨none, 0, rfl, Bs.nil_ _, fun _ h => by cases h⟩, rfl⟩
    · have hn0 : 0 < n' := by have := HL.out; simp only [List.length_cons] at this; omega
      have hn1 : (0 : Int) < n' := by omega
      have hn2 : ((n' : Int) == 0) = false := by simp; omega
      obtain ⟨b, off, _, rfl, _, hc⟩ := HBS.out.at_ (i := 0) hn0
      simp only [List.getElem_cons_zero, Nat.add_zero] at hc
      by_cases hx : x = 0
      · subst hx
        have e0 : (((0 : UInt8).toNat : Nat) : Int) = 0 := rfl
        rw [e0] at hc
        clear e0
        by_cases hc1 : c' = 1
        · have HD := Lib.hid (bs_drop_one HBS.out hc1)
          have hn3 : n' = 1 := by omega
          subst hc1; subst hn3
          go_wp2
          exact ⟨⟨_, _, _, r, rfl, HD.out, by rw [← HE.out, trim_zero], HP.out⟩, by simp [lenOfV]⟩
        · have HD := Lib.hid (bs_drop_more HBS.out hc1)
          have HPD := Lib.hid (PartOf.drop b off 1 c')
          rw [if_neg hc1] at HPD
          go_wp2
          exact ⟨⟨_, _, _, r, rfl, HD.out, by rw [← HE.out, trim_zero], HPD.out.trans HP.out⟩, by simp [lenOfV]; omega⟩
      · have hx1 : ((x.toNat : Int) == 0) = false := by
          rw [beq_eq_false_iff_ne]
          intro e
          exact hx (UInt8.toNat_inj.1 (by simpa using e))
        have HK := Lib.hid (trim_keep hx r)
        clear hx
        go_wp2
        go_ret
        rw [← HE.out, HK.out, HL.out]
        exact ⟨⟨_, _, rfl, HBS.out, HP.out⟩, rfl⟩

set_option maxRecDepth 100000 in
theorem trimLeft_any {w : World} {a : Option Addr} {n c : Nat} {l : List UInt8} (h : Bs w a n c l) :
    Calls Tryd.prog 60 #[.slice a n c, .string ⟨#[0]⟩] w fun e w' => (∃ a' c', e = .returned (.slice a' (trimZ l).length c') ∧ Bs w a' (trimZ l).length c' (trimZ l) ∧ PartOf a' a) ∧ w = w' := by
  have hl := h.len
  by_cases hn : n = 0
  · have e : l = [] := List.eq_nil_of_length_eq_zero (by omega)
    subst e; subst hn
    clear h hl
    go_enter Tryd.func60, Tryd.ntmps60
    go_wp2
    go_ret
    exact ⟨⟨none, 0, rfl, Bs.nil_ _, fun _ h => by cases h⟩, rfl⟩
  · have hn2 : ((n : Int) == 0) = false := by simp; omega
    have HT := Lib.hid (trimLeftByte_any h)
    clear h hl
    go_enter Tryd.func60, Tryd.ntmps60
    go_wp2_with (go_at_call 62; go_must (refine HT.out.mono ?_); rintro e w' ⟨⟨a', c', rfl, hb, hp⟩, rfl⟩)
    go_ret
    exact ⟨⟨a', c', rfl, hb, hp⟩, rfl⟩

theorem pow_256 (t : Nat) : 256 ^ (4 - t) ≤ 4294967296 := Nat.le_trans (Nat.pow_le_pow_right (show 0 < 256 by omega) (show 4 - t ≤ 4 by omega)) (by decide)
theorem pow_10 (t : Nat) : 10 ^ (9 - t) ≤ 1000000000 := Nat.le_trans (Nat.pow_le_pow_right (show 0 < 10 by omega) (show 9 - t ≤ 9 by omega)) (by decide)
/-- a further digit ahead -/
theorem dig_step {b r T D : Nat} {tail : List UInt8} {x : UInt8} (hx : x.toNat = r % b) (hl : tail.length = T) (h : dgv b tail + r * b ^ T = D) : dgv b (x :: tail) + r / b * b ^ (T + 1) = D := by
  have := Nat.div_add_mod r b
  rw [dgv_cons, hl, hx, Nat.pow_succ, ← h]
  generalize b ^ T = P
  have e : r / b * (P * b) = b * (r / b) * P := by
    rw [Nat.mul_comm P b, ← Nat.mul_assoc, Nat.mul_comm (r / b) b]
  have e2 : r * P = (b * (r / b) + r % b) * P := by rw [this]
  rw [e, e2, Nat.add_mul]
  omega
theorem lval_take {G : Nat} {L : List Nat} {k : Nat} (h : k < L.length) : lval G (L.take (k + 1)) = lval G (L.take k) + L[k] * G ^ k := by
  rw [List.take_succ_eq_append_getElem h, lval_snoc, List.length_take, Nat.min_eq_left (by omega)]
theorem div_pow_lt {b r s : Nat} (hb : 0 < b) (h : r < b ^ (s + 1)) : r / b < b ^ s := by
  rw [Nat.div_lt_iff_lt_mul hb]
  rwa [Nat.pow_succ] at h

set_option maxRecDepth 100000 in
set_option maxHeartbeats 4000000 in
theorem digits_256 {w : World} {a : Option Addr} {n c : Nat} {L : List Nat} (h : Us w a n c L) (hG : ∀ x ∈ L, x < 256 ^ 4) (hz : n ≤ 1000000) :
    Calls Tryd.prog 57 #[.agg #[.int .u64 256, .int .i64 4, .int .u64 4294967296], .slice a n c] w fun e w' => ∃ a' c' l, e = .returned (.slice a' l.length c') ∧ Bs w' a' l.length c' l ∧ Mine w' w.heap.size a' ∧ l.length ≤ n * 4 ∧ dgv 256 l = lval (256 ^ 4) L ∧ (∀ x ∈ l, x.toNat < 256) ∧ l.head? ≠ some 0 ∧ Below w.heap.size w w' := by
  obtain ⟨i0, hi, hz0, hz1, hz2⟩ := info_parts info_u8
  have HX := Lib.hid h
  have HL := Lib.hid h.len
  have HG := Lib.hid hG
  obtain ⟨M, hM⟩ : ∃ M, n * 4 = M := ⟨_, rfl⟩
  have hM2 : (n : Int) * 4 = M := by omega
  have HW := Lib.hid (Blk.new w 54 #[.int .u64 256, .int .i64 4, .int .u64 4294967296])
  have hb0 := Lib.hid (bal (Below.refl w.heap.size w) (.cells #[.int .u64 256, .int .i64 4, .int .u64 4294967296] 54))
  obtain ⟨w1, hw1⟩ : ∃ w1, w.alloc (.cells #[.int .u64 256, .int .i64 4, .int .u64 4294967296] 54) = w1 := ⟨_, rfl⟩
  have hs1 : w1.heap.size = w.heap.size + 1 := by rw [← hw1]; simp
  obtain ⟨g, hg⟩ : ∃ g, w.heap.size = g := ⟨_, rfl⟩
  rw [hw1] at HW hb0
  rw [hg] at HW hs1
  have y0 := HW.out.cell 0
  have y1 := HW.out.cell 1
  have y2 := HW.out.cell 2
  have yl := HW.out.lt
  simp only [List.getElem?_toArray, List.getElem?_cons_zero, List.getElem?_cons_succ] at y0 y1 y2
  clear h hG
  go_enter Tryd.func57, Tryd.ntmps57
  go_wp2_with (at_make; go_must (refine wpList_make_full _ rfl _ _ 22 rfl w.heap.size 5 i0 (.int .u8 0) 1 Tryd.underlying22 hi hz0 hz1 .i64 .i64 _ _ M rfl rfl rfl rfl (by rw [hz2]; omega) (by unfold maxLen; omega) (by rw [hs1, hg]; omega) ?_); intro w2 ho2 hg2)
  rw [made_zeros, hs1] at ho2
  obtain ⟨g1, hg1⟩ : ∃ g1, g + 1 = g1 := ⟨_, rfl⟩
  rw [hg1] at ho2
  have HO : Hid (Own w2 w.heap.size 5 (some ⟨g1, 0, none⟩) M M (List.replicate M 0)) := ho2
  have HB : Hid (Below w.heap.size w w2) := hb0.out.grown hg2 (by rw [hs1]; omega) (fun _ h => by cases h)
  have HW2 : Hid (Blk w2 g 54 #[.int .u64 256, .int .i64 4, .int .u64 4294967296]) := HW.out.keep (hg2.block g (by rw [hs1]; omega) (by simp))
  clear ho2 hg2 y0 y1 y2 yl
  go_wp2
  go_loopw [6, 19] (fun e i wr => ∃ j q : Nat, ∃ tail, j ≤ n ∧ q + j * 4 = M ∧ i = .int .i64 j ∧ e = .int .i64 q ∧ Own wr w.heap.size 5 (some ⟨g1, 0, none⟩) M M (List.replicate q 0 ++ tail) ∧ tail.length = j * 4 ∧ dgv 256 tail = lval (256 ^ 4) (L.take j) ∧ (∀ x ∈ tail, x.toNat < 256) ∧ Blk wr g 54 #[.int .u64 256, .int .i64 4, .int .u64 4294967296] ∧ Below w.heap.size w wr) (fun _ i _ => n - (intOf i).toNat)
  case atStart => exact ⟨0, M, [], by omega, by omega, rfl, rfl, by simpa using HO.out, rfl, rfl, by simp, HW2.out, HB.out⟩
  case round =>
    obtain ⟨j, q, tail, hj, hq, rfl, rfl, ho, ht, hd, hs, hw, hb⟩ := hrel
    have HB2 := Lib.hid hb
    have HO2 := Lib.hid ho
    have HT := Lib.hid ht
    have HD := Lib.hid hd
    have HS := Lib.hid hs
    have y0 := hw.cell 0
    have y1 := hw.cell 1
    have y2 := hw.cell 2
    have yl := hw.lt
    simp only [List.getElem?_toArray, List.getElem?_cons_zero, List.getElem?_cons_succ] at y0 y1 y2
    have HW3 := Lib.hid hw
    clear hb ho ht hd hs hw
    by_cases hlt : j < n
    · obtain ⟨b, off, hkl, rfl, _, hx⟩ := (HX.out.below HB2.out).at_ hlt
      have HLT := Lib.hid (lval_take (G := 256 ^ 4) hkl)
      have HGX := Lib.hid (HG.out _ (List.getElem_mem hkl))
      generalize L[j] = x at *
      obtain ⟨D, hD⟩ : ∃ D, Hid (lval (256 ^ 4) (L.take (j + 1)) = D) := ⟨_, Lib.hid rfl⟩
      have hj0 : (0 : Int) ≤ j := by omega
      have hj1 : (j : Int) < n := by omega
      clear hkl
      go_wp2
      go_loopw [6, 8, 25] (fun e v i wr => ∃ t q r : Nat, ∃ tail, t ≤ 4 ∧ q + (j * 4 + t) = M ∧ i = .int .i64 t ∧ e = .int .i64 q ∧ v = .int .u64 r ∧ Own wr w.heap.size 5 (some ⟨g1, 0, none⟩) M M (List.replicate q 0 ++ tail) ∧ tail.length = j * 4 + t ∧ dgv 256 tail + r * 256 ^ (j * 4 + t) = D ∧ r < 256 ^ (4 - t) ∧ (∀ x ∈ tail, x.toNat < 256) ∧ Blk wr g 54 #[.int .u64 256, .int .i64 4, .int .u64 4294967296] ∧ Below w.heap.size w wr) (fun _ _ i _ => 4 - (intOf i).toNat)
      case atStart => exact ⟨0, q, x, tail, by omega, by omega, rfl, rfl, rfl, HO2.out, HT.out, by rw [← hD.out, HLT.out, HD.out, ← Nat.pow_mul, Nat.mul_comm 4]; rfl, HGX.out, HS.out, HW3.out, HB2.out⟩
      case round =>
        obtain ⟨t, q2, r, tl, ht4, hq2, rfl, rfl, rfl, ho, htl, hd2, hr, hs2, hw, hb⟩ := hrel
        have HB3 := Lib.hid hb
        have HTL := Lib.hid htl
        have HD2 := Lib.hid hd2
        have HR := Lib.hid hr
        have HS2 := Lib.hid hs2
        have y0 := hw.cell 0
        have y1 := hw.cell 1
        have y2 := hw.cell 2
        have yl := hw.lt
        simp only [List.getElem?_toArray, List.getElem?_cons_zero, List.getElem?_cons_succ] at y0 y1 y2
        have HW4 := Lib.hid hw
        clear hb htl hd2 hr hs2 hw
        by_cases ht : t < 4
        · obtain ⟨q3, rfl⟩ : ∃ q3, q2 = q3 + 1 := ⟨q2 - 1, by omega⟩
          have hc := ho.cell (j := q3) (by simp; omega)
          have hf := ho.frozen q3
          have HST := Lib.hid (ho.stored q3 (UInt8.ofNat (r % 256)))
          have hxr : Hid ((UInt8.ofNat (r % 256)).toNat = r % 256) := by show _ = _; rw [UInt8.toNat_ofNat']; omega
          rw [fill_step, hxr.out] at HST
          have hr64 : Hid (r < 4294967296) := Nat.lt_of_lt_of_le HR.out (pow_256 t)
          have hr64' : (r : Int) < 4294967296 := by have := hr64.out; omega
          have hq30 : (0 : Int) ≤ q3 := by omega
          have hq3M : (q3 : Int) < M := by omega
          have ht0 : (0 : Int) ≤ t := by omega
          have ht1 : (t : Int) < 4 := by omega
          have hcast : (((q3 + 1 : Nat) : Int)) = (q3 : Int) + 1 := by omega
          have hpred : (q3 : Int) + 1 - 1 = q3 := by omega
          rw [hcast]
          clear ho
          go_wp2
          refine ⟨⟨t + 1, q3, r / 256, UInt8.ofNat (r % 256) :: tl, by omega, by omega, by go_num, rfl, by rw [Int.natCast_ediv]; rfl, ?_, by simp only [List.length_cons]; have := HTL.out; omega, dig_step hxr.out HTL.out HD2.out, div_pow_lt (by omega) (by rw [show 4 - (t + 1) + 1 = 4 - t from by omega]; exact HR.out), ?_, HW4.out.far (p := ⟨g1, q3, none⟩) (by simp; omega) _, HB3.out.setCell (p := ⟨g1, q3, none⟩) (by simp; omega) _⟩, by simp [intOf]; omega⟩
          · exact HST.out
          · intro x hx
            rcases List.mem_cons.1 hx with rfl | hx
            · rw [hxr.out]; omega
            · exact HS2.out x hx
        · have ht5 : t = 4 := by omega
          subst ht5
          have hr0 : Hid (r = 0) := by
            show _ = _
            have := HR.out
            rw [Nat.sub_self, Nat.pow_zero] at this
            omega
          have HO3 := Lib.hid ho
          clear ho
          go_wp2
          go_roundw
          case rel => exact ⟨j + 1, q2, tl, by omega, by omega, by go_num, rfl, HO3.out, by have := HTL.out; omega, by rw [hD.out, ← HD2.out, hr0.out]; simp, HS2.out, HW4.out, HB3.out⟩
          case measure => simp [intOf]; omega
    · have hjn : j = n := by omega
      subst hjn
      have hq0 : q = 0 := by omega
      subst hq0
      have HO3 := Lib.hid HO2.out
      rw [List.replicate_zero, List.nil_append] at HO3
      have HTR := Lib.hid (trimLeft_any HO3.out.bs)
      have HMN := Lib.hid HO3.out.mine
      have hfin : Hid (lval (256 ^ 4) L = dgv 256 tail) := by
        show _ = _
        rw [HD.out, List.take_of_length_le (by have := HL.out; omega)]
      go_wp2_with (go_at_call 60; go_must (refine HTR.out.mono ?_); rintro e w' ⟨⟨a', c', rfl, hbs, hp⟩, rfl⟩)
      go_ret
      refine ⟨a', c', _, rfl, hbs, HMN.out.part hp, ?_, by rw [hfin.out, dgv_trim], ?_, trim_head _, HB2.out⟩
      · have := trim_len tail
        have := HT.out
        omega
      · have h1 := trim_all (p := fun x => decide (x.toNat < 256)) tail (by rw [List.all_eq_true]; intro x hx; simpa using HS.out x hx)
        rw [List.all_eq_true] at h1
        intro x hx
        simpa using h1 x hx

set_option maxRecDepth 100000 in
set_option maxHeartbeats 4000000 in
theorem digits_10 {w : World} {a : Option Addr} {n c : Nat} {L : List Nat} (h : Us w a n c L) (hG : ∀ x ∈ L, x < 10 ^ 9) (hz : n ≤ 1000000) :
    Calls Tryd.prog 57 #[.agg #[.int .u64 10, .int .i64 9, .int .u64 1000000000], .slice a n c] w fun e w' => ∃ a' c' l, e = .returned (.slice a' l.length c') ∧ Bs w' a' l.length c' l ∧ Mine w' w.heap.size a' ∧ l.length ≤ n * 9 ∧ dgv 10 l = lval (10 ^ 9) L ∧ (∀ x ∈ l, x.toNat < 10) ∧ l.head? ≠ some 0 ∧ Below w.heap.size w w' := by
  obtain ⟨i0, hi, hz0, hz1, hz2⟩ := info_parts info_u8
  have HX := Lib.hid h
  have HL := Lib.hid h.len
  have HG := Lib.hid hG
  obtain ⟨M, hM⟩ : ∃ M, n * 9 = M := ⟨_, rfl⟩
  have hM2 : (n : Int) * 9 = M := by omega
  have HW := Lib.hid (Blk.new w 54 #[.int .u64 10, .int .i64 9, .int .u64 1000000000])
  have hb0 := Lib.hid (bal (Below.refl w.heap.size w) (.cells #[.int .u64 10, .int .i64 9, .int .u64 1000000000] 54))
  obtain ⟨w1, hw1⟩ : ∃ w1, w.alloc (.cells #[.int .u64 10, .int .i64 9, .int .u64 1000000000] 54) = w1 := ⟨_, rfl⟩
  have hs1 : w1.heap.size = w.heap.size + 1 := by rw [← hw1]; simp
  obtain ⟨g, hg⟩ : ∃ g, w.heap.size = g := ⟨_, rfl⟩
  rw [hw1] at HW hb0
  rw [hg] at HW hs1
  have y0 := HW.out.cell 0
  have y1 := HW.out.cell 1
  have y2 := HW.out.cell 2
  have yl := HW.out.lt
  simp only [List.getElem?_toArray, List.getElem?_cons_zero, List.getElem?_cons_succ] at y0 y1 y2
  clear h hG
  go_enter Tryd.func57, Tryd.ntmps57
  go_wp2_with (at_make; go_must (refine wpList_make_full _ rfl _ _ 22 rfl w.heap.size 5 i0 (.int .u8 0) 1 Tryd.underlying22 hi hz0 hz1 .i64 .i64 _ _ M rfl rfl rfl rfl (by rw [hz2]; omega) (by unfold maxLen; omega) (by rw [hs1, hg]; omega) ?_); intro w2 ho2 hg2)
  rw [made_zeros, hs1] at ho2
  obtain ⟨g1, hg1⟩ : ∃ g1, g + 1 = g1 := ⟨_, rfl⟩
  rw [hg1] at ho2
  have HO : Hid (Own w2 w.heap.size 5 (some ⟨g1, 0, none⟩) M M (List.replicate M 0)) := ho2
  have HB : Hid (Below w.heap.size w w2) := hb0.out.grown hg2 (by rw [hs1]; omega) (fun _ h => by cases h)
  have HW2 : Hid (Blk w2 g 54 #[.int .u64 10, .int .i64 9, .int .u64 1000000000]) := HW.out.keep (hg2.block g (by rw [hs1]; omega) (by simp))
  clear ho2 hg2 y0 y1 y2 yl
  go_wp2
  go_loopw [6, 19] (fun e i wr => ∃ j q : Nat, ∃ tail, j ≤ n ∧ q + j * 9 = M ∧ i = .int .i64 j ∧ e = .int .i64 q ∧ Own wr w.heap.size 5 (some ⟨g1, 0, none⟩) M M (List.replicate q 0 ++ tail) ∧ tail.length = j * 9 ∧ dgv 10 tail = lval (10 ^ 9) (L.take j) ∧ (∀ x ∈ tail, x.toNat < 10) ∧ Blk wr g 54 #[.int .u64 10, .int .i64 9, .int .u64 1000000000] ∧ Below w.heap.size w wr) (fun _ i _ => n - (intOf i).toNat)
  case atStart => exact ⟨0, M, [], by omega, by omega, rfl, rfl, by simpa using HO.out, rfl, rfl, by simp, HW2.out, HB.out⟩
  case round =>
    obtain ⟨j, q, tail, hj, hq, rfl, rfl, ho, ht, hd, hs, hw, hb⟩ := hrel
    have HB2 := Lib.hid hb
    have HO2 := Lib.hid ho
    have HT := Lib.hid ht
    have HD := Lib.hid hd
    have HS := Lib.hid hs
    have y0 := hw.cell 0
    have y1 := hw.cell 1
    have y2 := hw.cell 2
    have yl := hw.lt
    simp only [List.getElem?_toArray, List.getElem?_cons_zero, List.getElem?_cons_succ] at y0 y1 y2
    have HW3 := Lib.hid hw
    clear hb ho ht hd hs hw
    by_cases hlt : j < n
    · obtain ⟨b, off, hkl, rfl, _, hx⟩ := (HX.out.below HB2.out).at_ hlt
      have HLT := Lib.hid (lval_take (G := 10 ^ 9) hkl)
      have HGX := Lib.hid (HG.out _ (List.getElem_mem hkl))
      generalize L[j] = x at *
      obtain ⟨D, hD⟩ : ∃ D, Hid (lval (10 ^ 9) (L.take (j + 1)) = D) := ⟨_, Lib.hid rfl⟩
      have hj0 : (0 : Int) ≤ j := by omega
      have hj1 : (j : Int) < n := by omega
      clear hkl
      go_wp2
      go_loopw [6, 8, 25] (fun e v i wr => ∃ t q r : Nat, ∃ tail, t ≤ 9 ∧ q + (j * 9 + t) = M ∧ i = .int .i64 t ∧ e = .int .i64 q ∧ v = .int .u64 r ∧ Own wr w.heap.size 5 (some ⟨g1, 0, none⟩) M M (List.replicate q 0 ++ tail) ∧ tail.length = j * 9 + t ∧ dgv 10 tail + r * 10 ^ (j * 9 + t) = D ∧ r < 10 ^ (9 - t) ∧ (∀ x ∈ tail, x.toNat < 10) ∧ Blk wr g 54 #[.int .u64 10, .int .i64 9, .int .u64 1000000000] ∧ Below w.heap.size w wr) (fun _ _ i _ => 9 - (intOf i).toNat)
      case atStart => exact ⟨0, q, x, tail, by omega, by omega, rfl, rfl, rfl, HO2.out, HT.out, by rw [← hD.out, HLT.out, HD.out, ← Nat.pow_mul, Nat.mul_comm 9]; rfl, HGX.out, HS.out, HW3.out, HB2.out⟩
      case round =>
        obtain ⟨t, q2, r, tl, ht4, hq2, rfl, rfl, rfl, ho, htl, hd2, hr, hs2, hw, hb⟩ := hrel
        have HB3 := Lib.hid hb
        have HTL := Lib.hid htl
        have HD2 := Lib.hid hd2
        have HR := Lib.hid hr
        have HS2 := Lib.hid hs2
        have y0 := hw.cell 0
        have y1 := hw.cell 1
        have y2 := hw.cell 2
        have yl := hw.lt
        simp only [List.getElem?_toArray, List.getElem?_cons_zero, List.getElem?_cons_succ] at y0 y1 y2
        have HW4 := Lib.hid hw
        clear hb htl hd2 hr hs2 hw
        by_cases ht : t < 9
        · obtain ⟨q3, rfl⟩ : ∃ q3, q2 = q3 + 1 := ⟨q2 - 1, by omega⟩
          have hc := ho.cell (j := q3) (by simp; omega)
          have hf := ho.frozen q3
          have HST := Lib.hid (ho.stored q3 (UInt8.ofNat (r % 10)))
          have hxr : Hid ((UInt8.ofNat (r % 10)).toNat = r % 10) := by show _ = _; rw [UInt8.toNat_ofNat']; omega
          rw [fill_step, hxr.out] at HST
          have hr64 : Hid (r < 1000000000) := Nat.lt_of_lt_of_le HR.out (pow_10 t)
          have hr64' : (r : Int) < 1000000000 := by have := hr64.out; omega
          have hq30 : (0 : Int) ≤ q3 := by omega
          have hq3M : (q3 : Int) < M := by omega
          have ht0 : (0 : Int) ≤ t := by omega
          have ht1 : (t : Int) < 9 := by omega
          have hcast : (((q3 + 1 : Nat) : Int)) = (q3 : Int) + 1 := by omega
          have hpred : (q3 : Int) + 1 - 1 = q3 := by omega
          rw [hcast]
          clear ho
          go_wp2
          refine ⟨⟨t + 1, q3, r / 10, UInt8.ofNat (r % 10) :: tl, by omega, by omega, by go_num, rfl, by rw [Int.natCast_ediv]; rfl, ?_, by simp only [List.length_cons]; have := HTL.out; omega, dig_step hxr.out HTL.out HD2.out, div_pow_lt (by omega) (by rw [show 9 - (t + 1) + 1 = 9 - t from by omega]; exact HR.out), ?_, HW4.out.far (p := ⟨g1, q3, none⟩) (by simp; omega) _, HB3.out.setCell (p := ⟨g1, q3, none⟩) (by simp; omega) _⟩, by simp [intOf]; omega⟩
          · exact HST.out
          · intro x hx
            rcases List.mem_cons.1 hx with rfl | hx
            · rw [hxr.out]; omega
            · exact HS2.out x hx
        · have ht5 : t = 9 := by omega
          subst ht5
          have hr0 : Hid (r = 0) := by
            show _ = _
            have := HR.out
            rw [Nat.sub_self, Nat.pow_zero] at this
            omega
          have HO3 := Lib.hid ho
          clear ho
          go_wp2
          go_roundw
          case rel => exact ⟨j + 1, q2, tl, by omega, by omega, by go_num, rfl, HO3.out, by have := HTL.out; omega, by rw [hD.out, ← HD2.out, hr0.out]; simp, HS2.out, HW4.out, HB3.out⟩
          case measure => simp [intOf]; omega
    · have hjn : j = n := by omega
      subst hjn
      have hq0 : q = 0 := by omega
      subst hq0
      have HO3 := Lib.hid HO2.out
      rw [List.replicate_zero, List.nil_append] at HO3
      have HTR := Lib.hid (trimLeft_any HO3.out.bs)
      have HMN := Lib.hid HO3.out.mine
      have hfin : Hid (lval (10 ^ 9) L = dgv 10 tail) := by
        show _ = _
        rw [HD.out, List.take_of_length_le (by have := HL.out; omega)]
      go_wp2_with (go_at_call 60; go_must (refine HTR.out.mono ?_); rintro e w' ⟨⟨a', c', rfl, hbs, hp⟩, rfl⟩)
      go_ret
      refine ⟨a', c', _, rfl, hbs, HMN.out.part hp, ?_, by rw [hfin.out, dgv_trim], ?_, trim_head _, HB2.out⟩
      · have := trim_len tail
        have := HT.out
        omega
      · have h1 := trim_all (p := fun x => decide (x.toNat < 10)) tail (by rw [List.all_eq_true]; intro x hx; simpa using HS.out x hx)
        rw [List.all_eq_true] at h1
        intro x hx
        simpa using h1 x hx
end Go.Proofs.YtammegdfjgphkaaDoor
