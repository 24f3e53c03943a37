/-
  Contracts: the reference's wide and Compare.
-/
import Derived.Test.YtammegdfjgphkaaDoorIntCmp
namespace Go.Proofs.YtammegdfjgphkaaDoor
open Go.RowKit

theorem xor_byte (x : UInt8) : bits BinOp.xor IntKind.u8 (x.toNat : Int) 128 = ((x ^^^ 128).toNat : Int) := by
  have h := u8_xor_nat x.toNat 128 x.toNat_lt (by omega)
  rw [show ((128 : Nat) : Int) = 128 from rfl] at h
  rw [h, UInt8.toNat_xor]
  rfl
theorem signB_bit {x : UInt8} {r : List UInt8} : ((bitN (x :: r) 0 : Nat) : Int) = if signB (x :: r) = 255 then 1 else 0 := by
  rw [bit0]
  unfold signB
  split <;> rfl

set_option maxRecDepth 100000 in
set_option maxHeartbeats 2000000 in
theorem wide_any {w : World} {a : Option Addr} {n c m : Nat} {l : List UInt8} (h : Bs w a n c l) (hv : vI l = true) (hm : n ≤ m) (hz : m ≤ 1000000) :
    Calls Tryd.prog 43 #[.slice a n c, .int .i64 m] w fun e w' => ∃ a' c', e = .returned (.slice a' m c') ∧ Bs w' a' m c' (flipI (padI (m - n) l)) ∧ Below w.heap.size w w' := by
  obtain ⟨i0, hi, hz0, hz1, hz2⟩ := info_parts info_u8
  have HX := Lib.hid h
  have HL := Lib.hid h.len
  have hn0 : 0 < n := by have := len_pos hv; have := h.len; omega
  have HBT := Lib.hid (fun w (h : Bs w a n c l) => bit_any (i := 0) h (by omega) (by omega))
  obtain ⟨s, hs⟩ : ∃ s, Hid (signB l = s) := ⟨_, Lib.hid rfl⟩
  have hs2 : s = 255 ∨ s = 0 := by rw [← hs.out]; unfold signB; split <;> simp
  have hb0 : ((bitN l 0 : Nat) : Int) = if s = 255 then 1 else 0 := by
    rw [← hs.out]
    cases l with
    | nil => cases hv
    | cons x r => exact signB_bit
  rw [hb0] at HBT
  have HPD := Lib.hid (fun k => padI_succ k l (vI_ne hv))
  clear h hv hb0
  go_enter Tryd.func43, Tryd.ntmps43
  go_wp2_with (at_builtin; go_must (refine wpList_app _ rfl _ _ 22 rfl w.heap.size 5 i0 Tryd.underlying22 hi hz0 hz1 hz2 (some ⟨w.heap.size, 0, none⟩) 0 0 [] rfl (own_made w _) a n c l rfl (HX.out.alloc _) ?c1 ?c2 ?_))
  case c1 => omega
  case c2 => simp
  intro a1 c1 w1 ho1 hg1
  have HB : Hid (Below w.heap.size w w1) := (bal (Below.refl _ w) _).trans (app_below (own_made w _) hg1 (Nat.le_refl _) (by simp))
  have HO : Hid (Own w1 w.heap.size 5 a1 n c1 (padI (n - n) l)) := by
    show Own _ _ _ _ _ _ _
    rw [Nat.sub_self]
    exact ho1
  clear ho1 hg1
  go_wp2
  go_loopw [5] (fun v wr => ∃ a' k c', n ≤ k ∧ k ≤ m ∧ v = .slice a' k c' ∧ Own wr w.heap.size 5 a' k c' (padI (k - n) l) ∧ Below w.heap.size w wr) (fun v _ => m - lenOfV v)
  case atStart => exact ⟨a1, n, c1, Nat.le_refl _, hm, by simp, HO.out, HB.out⟩
  case round =>
    obtain ⟨a', k, c', hk1, hk2, rfl, ho, hb⟩ := hrel
    have HO2 := Lib.hid ho
    have HB2 := Lib.hid hb
    have HBT2 := Lib.hid (HBT.out _ (HX.out.below hb))
    clear ho hb
    by_cases hlt : k < m
    · have hk3 : (k : Int) < m := by omega
      have hps : Hid (padI (k + 1 - n) l = s :: padI (k - n) l) := by
        show _ = _
        obtain ⟨e1, _, e2, _⟩ := HPD.out (k - n)
        rw [show k + 1 - n = k - n + 1 from by omega, e1, e2, hs.out]
      have hsz := HB2.out.size
      rcases hs2 with rfl | rfl
      · simp only [if_true] at HBT2
        go_wp2_with (first | (go_at_call 34; go_must (refine HBT2.out.mono ?_); rintro e w' ⟨rfl, rfl⟩) | (at_builtin; go_must (refine wpList_app _ rfl _ _ 22 rfl w.heap.size 5 i0 Tryd.underlying22 hi hz0 hz1 hz2 (some ⟨wr.heap.size, 0, none⟩) 1 1 [255] rfl (own_lit _ _ [255] 1 rfl rfl (by decide) hsz) a' k c' _ rfl (HO2.out.bs.alloc _) ?c3 ?c4 ?_)))
        case c3 => omega
        case c4 => simp; omega
        intro a2 c2 w2 ho2 hg2
        have HB3 : Hid (Below w.heap.size w w2) := (bal HB2.out _).trans (app_below (own_lit (w := wr) (B := w.heap.size) 5 #[.int .u8 255] [255] 1 rfl rfl (by decide) hsz) hg2 (Nat.le_refl _) (by simp; omega))
        have HO3 := Lib.hid ho2
        clear ho2 hg2
        go_wp2
        go_roundw
        case rel => exact ⟨a2, k + 1, c2, by omega, by omega, by rw [Nat.add_comm], by rw [hps.out, Nat.add_comm]; exact HO3.out, HB3.out⟩
        case measure => simp [lenOfV]; omega
      · simp only [show ¬ ((0 : UInt8) = 255) from by decide, if_false] at HBT2
        go_wp2_with (first | (go_at_call 34; go_must (refine HBT2.out.mono ?_); rintro e w' ⟨rfl, rfl⟩) | (at_builtin; go_must (refine wpList_app _ rfl _ _ 22 rfl w.heap.size 5 i0 Tryd.underlying22 hi hz0 hz1 hz2 (some ⟨wr.heap.size, 0, none⟩) 1 1 [0] rfl (own_lit _ _ [0] 1 rfl rfl (by decide) hsz) a' k c' _ rfl (HO2.out.bs.alloc _) ?c3 ?c4 ?_)))
        case c3 => omega
        case c4 => simp; omega
        intro a2 c2 w2 ho2 hg2
        have HB3 : Hid (Below w.heap.size w w2) := (bal HB2.out _).trans (app_below (own_lit (w := wr) (B := w.heap.size) 5 #[.int .u8 0] [0] 1 rfl rfl (by decide) hsz) hg2 (Nat.le_refl _) (by simp; omega))
        have HO3 := Lib.hid ho2
        clear ho2 hg2
        go_wp2
        go_roundw
        case rel => exact ⟨a2, k + 1, c2, by omega, by omega, by rw [Nat.add_comm], by rw [hps.out, Nat.add_comm]; exact HO3.out, HB3.out⟩
        case measure => simp [lenOfV]; omega
    · have hkm : k = m := by omega
      subst hkm
      obtain ⟨g, rfl, hg1, hg2⟩ := HO2.out.pos (by omega)
      have hne := (HPD.out (k - n)).2.1
      match hp : padI (k - n) l, hne with
      | x :: r, _ =>
        rw [hp] at HO2
        have hc := HO2.out.cell (j := 0) (by simp)
        have hf := HO2.out.frozen 0
        simp only [List.getElem_cons_zero] at hc
        have HS := Lib.hid (HO2.out.stored 0 (x ^^^ 128)).bs
        have hn3 : 0 < k := by omega
        have hn4 : (0 : Int) < k := by omega
        have HXB := Lib.hid (xor_byte x)
        have HP := Lib.hid hp
        clear hne hp HPD
        go_wp2
        go_ret
        rw [HXB.out, HP.out]
        exact ⟨_, _, rfl, HS.out, HB2.out.setCell hg1 _⟩

theorem cmp_is {a b : List UInt8} {n m : Nat} (ha : vI a = true) (hb : vI b = true) (h1 : a.length = n) (h2 : b.length = m) : lex (flipI (padI (max n m - n) a)) (flipI (padI (max n m - m) b)) = cmpI a b := by
  subst h1; subst h2
  rw [cmp_wide (vI_ne ha) (vI_ne hb) (by omega) (by omega)]
  unfold cmpI
  rw [if_pos ⟨ha, hb⟩]

set_option maxHeartbeats 1000000 in
theorem ref_compareI_any {w : World} {a b : Option Addr} {n c m d : Nat} {xs ys : List UInt8} (hx : Bs w a n c xs) (hy : Bs w b m d ys) (hn : n ≤ 100000) (hm : m ≤ 100000) :
    Calls Tryd.prog 28 #[.slice a n c, .slice b m d] w fun e w' => e = .returned (.int .i64 (cmpI xs ys)) ∧ Below w.heap.size w w' := by
  have HV := Lib.hid (ref_valid_any hx)
  have HW := Lib.hid (ref_valid_any hy)
  rcases hv : vI xs with _ | _
  · rw [hv] at HV
    rw [cmpI_not1 hv]
    clear hx hy hv HW
    go_enter Tryd.func28, Tryd.ntmps28
    go_wp2_with (go_at_call 20; go_must (refine HV.out.mono ?_); rintro e w' ⟨rfl, rfl⟩)
    go_ret
    exact ⟨rfl, Below.refl _ _⟩
  · rw [hv] at HV
    rcases hv2 : vI ys with _ | _
    · rw [hv2] at HW
      rw [cmpI_not2 hv2]
      clear hx hy hv hv2
      go_enter Tryd.func28, Tryd.ntmps28
      go_wp2_with fail
      refine HV.out.mono ?_
      rintro e w' ⟨rfl, rfl⟩
      go_wp2_with fail
      refine HW.out.mono ?_
      rintro e w' ⟨rfl, rfl⟩
      go_wp2_with fail
      go_ret
      exact ⟨rfl, Below.refl _ _⟩
    · rw [hv2] at HW
      by_cases hnm : n < m
      · have hM : max n m = m := by omega
        have HF := Lib.hid (cmp_is hv hv2 hx.len hy.len)
        rw [hM] at HF
        have H1 := Lib.hid (fun w (h : Bs w a n c xs) => wide_any h hv (m := m) (by omega) (by omega))
        have H2 := Lib.hid (fun w (h : Bs w b m d ys) => wide_any h hv2 (m := m) (by omega) (by omega))
        generalize flipI (padI (m - n) xs) = p at *
        generalize flipI (padI (m - m) ys) = q at *
        have HX := Lib.hid hx
        have HY := Lib.hid hy
        have hnm' : (n : Int) < m := by omega
        clear hx hy hv hv2 hM hnm
        go_enter Tryd.func28, Tryd.ntmps28
        go_wp2_with fail
        refine HV.out.mono ?_
        rintro e w' ⟨rfl, rfl⟩
        go_wp2_with fail
        refine HW.out.mono ?_
        rintro e w' ⟨rfl, rfl⟩
        go_wp2_with fail
        refine (H1.out _ HX.out).mono ?_
        rintro e w1 ⟨a1, c1, rfl, hp1, hb1⟩
        go_wp2_with fail
        refine (H2.out _ (HY.out.below hb1)).mono ?_
        rintro e w2 ⟨a2, c2, rfl, hp2, hb2⟩
        go_wp2_with fail
        refine (ref_compare_any (hp1.below hb2) hp2).mono ?_
        rintro e w3 ⟨rfl, k, rfl⟩
        go_wp2_with fail
        go_ret
        exact ⟨ret_int HF.out, below_drewN (bthen hb1 hb2) _⟩
      · have hM : max n m = n := by omega
        have HF := Lib.hid (cmp_is hv hv2 hx.len hy.len)
        rw [hM] at HF
        have H1 := Lib.hid (fun w (h : Bs w a n c xs) => wide_any h hv (m := n) (by omega) (by omega))
        have H2 := Lib.hid (fun w (h : Bs w b m d ys) => wide_any h hv2 (m := n) (by omega) (by omega))
        generalize flipI (padI (n - n) xs) = p at *
        generalize flipI (padI (n - m) ys) = q at *
        have HX := Lib.hid hx
        have HY := Lib.hid hy
        have hnm' : ¬ (n : Int) < m := by omega
        clear hx hy hv hv2 hM hnm
        go_enter Tryd.func28, Tryd.ntmps28
        go_wp2_with fail
        refine HV.out.mono ?_
        rintro e w' ⟨rfl, rfl⟩
        go_wp2_with fail
        refine HW.out.mono ?_
        rintro e w' ⟨rfl, rfl⟩
        go_wp2_with fail
        refine (H1.out _ HX.out).mono ?_
        rintro e w1 ⟨a1, c1, rfl, hp1, hb1⟩
        go_wp2_with fail
        refine (H2.out _ (HY.out.below hb1)).mono ?_
        rintro e w2 ⟨a2, c2, rfl, hp2, hb2⟩
        go_wp2_with fail
        refine (ref_compare_any (hp1.below hb2) hp2).mono ?_
        rintro e w3 ⟨rfl, k, rfl⟩
        go_wp2_with fail
        go_ret
        exact ⟨ret_int HF.out, below_drewN (bthen hb1 hb2) _⟩
end Go.Proofs.YtammegdfjgphkaaDoor
