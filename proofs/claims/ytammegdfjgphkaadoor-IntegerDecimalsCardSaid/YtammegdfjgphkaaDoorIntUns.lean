/-
  Contracts: FromUnsigned and Unsigned, of the program and of the reference.
-/
import Derived.Test.YtammegdfjgphkaaDoorIntSign
import Derived.Test.YtammegdfjgphkaaDoorConcat
import Derived.Test.YtammegdfjgphkaaDoorLit
namespace Go.Proofs.YtammegdfjgphkaaDoor
open Go.RowKit

/-- a slice of the call's own: its block was made since the heap had B blocks, and may be written -/
def Mine (w : World) (B : Nat) (a : Option Addr) : Prop := ∀ x, a = some x → B ≤ x.block ∧ x.block < w.heap.size ∧ ∀ j, w.frozen? ⟨x.block, j, none⟩ = false
theorem Mine.none_ (w : World) (B : Nat) : Mine w B none := fun x h => by cases h
theorem Mine.more {w : World} {B B' : Nat} {a : Option Addr} (h : Mine w B a) (hB : B' ≤ B) : Mine w B' a := fun x hx => ⟨Nat.le_trans hB (h x hx).1, (h x hx).2⟩
theorem Mine.part {w : World} {B : Nat} {a a' : Option Addr} (h : Mine w B a) (hp : PartOf a' a) : Mine w B a' := fun x hx => by
  obtain ⟨y, hy, e⟩ := hp x hx
  obtain ⟨h1, h2, h3⟩ := h y hy
  rw [e] at h1 h2 h3
  exact ⟨h1, h2, h3⟩
theorem Mine.below {w w' : World} {B : Nat} {a : Option Addr} (h : Mine w B a) (hb : Below w.heap.size w w') : Mine w' B a := fun x hx => by
  obtain ⟨h1, h2, h3⟩ := h x hx
  exact ⟨h1, Nat.lt_of_lt_of_le h2 hb.size, fun j => (hb.frozen (p := ⟨x.block, j, none⟩) h2).trans (h3 j)⟩
theorem Own.mine {w : World} {B : Nat} {e : TypeId} {a : Option Addr} {n c : Nat} {l : List UInt8} (h : Own w B e a n c l) : Mine w B a := fun x hx => by
  obtain ⟨h1, h2⟩ := h.base x hx
  refine ⟨h1, h2, fun j => ?_⟩
  rcases h.2 with ⟨hv, _⟩ | ⟨g, cap, cur, hv, _⟩
  · injection hv with hv
    rw [hx] at hv
    cases hv
  · have e1 : x = ⟨g, 0, none⟩ := by injection hv with hv; rw [hx] at hv; injection hv
    subst e1
    subst hx
    exact h.frozen j

theorem two_rows {W : World} {b : Nat} {s0 s1 : Sl} {t : TypeId} (h : Blk W b t #[.slice s0.a s0.n s0.c, .slice s1.a s1.n s1.c]) (h0 : Bs W s0.a s0.n s0.c s0.l) (h1 : Bs W s1.a s1.n s1.c s1.l) : Rows W b [s0, s1] := by
  intro i hi
  rcases i with _ | _ | i
  · exact ⟨h.cell 0, h0⟩
  · exact ⟨h.cell 1, h1⟩
  · simp only [List.length_cons, List.length_nil] at hi; omega

set_option maxHeartbeats 1000000 in
theorem fromUnsigned_any {w : World} {a : Option Addr} {n c : Nat} {l : List UInt8} (h : Bs w a n c l) (hz : n ≤ 16000000) :
    Calls Tryd.prog 24 #[.slice a n c] w fun e w' => ∃ a' c', e = .returned (.slice a' (senc (bnum l)).length c') ∧ Bs w' a' (senc (bnum l)).length c' (senc (bnum l)) ∧ Mine w' w.heap.size a' ∧ Below w.heap.size w w' := by
  have HX := Lib.hid h
  have HE := Lib.hid (fromU_eq l)
  have L1 := Lib.hid (bs_lit w 5 #[.int .u8 0] [0] 1 rfl rfl (by decide))
  have R1 := Lib.hid (two_rows (s0 := ⟨some ⟨w.heap.size, 0, none⟩, 1, 1, [0]⟩) (s1 := ⟨a, n, c, l⟩) (by simpa using Blk.new (w.alloc (.cells #[.int .u8 0] 5)) 22 #[.slice (some ⟨w.heap.size, 0, none⟩) 1 1, .slice a n c]) (L1.out.alloc _) ((HX.out.alloc _).alloc _))
  have ht : Hid (tot [⟨some ⟨w.heap.size, 0, none⟩, 1, 1, [0]⟩, ⟨a, n, c, l⟩] = 1 + n) := by show _ = _; simp [tot]
  have hcat : Hid (cat [⟨some ⟨w.heap.size, 0, none⟩, 1, 1, [0]⟩, ⟨a, n, c, l⟩] = 0 :: l) := by show _ = _; simp [cat]
  have HC := Lib.hid (concat_any R1.out (by simp) (by rw [ht.out]; omega) (by simp))
  rw [ht.out, hcat.out] at HC
  clear ht hcat h
  go_enter Tryd.func24, Tryd.ntmps24
  go_wp2_with fail
  refine HC.out.mono ?_
  rintro e w1 ⟨a1, c1, rfl, ho, q⟩
  have HS := Lib.hid (shortest_any ho.bs)
  rw [HE.out] at HS
  have HM := Lib.hid ho.mine
  have HB := Lib.hid (bthen (bal (bal (Below.refl _ w) _) _) q)
  clear ho q HC
  go_wp2_with (go_at_call 37; go_must (refine HS.out.mono ?_); rintro e w' ⟨⟨a', c', rfl, hbs, hp⟩, rfl⟩)
  go_ret
  exact ⟨a', c', rfl, hbs, (HM.out.part hp).more (by simp; omega), HB.out⟩

set_option maxHeartbeats 1000000 in
theorem ref_fromUnsigned_any {w : World} {a : Option Addr} {n c : Nat} {l : List UInt8} (h : Bs w a n c l) (hz : n ≤ 16000000) :
    Calls Tryd.prog 26 #[.slice a n c] w fun e w' => ∃ a' c', e = .returned (.slice a' (senc (bnum l)).length c') ∧ Bs w' a' (senc (bnum l)).length c' (senc (bnum l)) ∧ Mine w' w.heap.size a' ∧ Below w.heap.size w w' := by
  have HX := Lib.hid h
  have HE := Lib.hid (fromU_eq l)
  have HRV := Lib.hid (fun w a n c l (h : Bs w a n c l) => ref_valid_any h)
  obtain ⟨i0, hi, hz0, hz1, hz2⟩ := info_parts info_u8
  clear h
  go_enter Tryd.func26, Tryd.ntmps26
  go_wp2_with (at_builtin; go_must (refine wpList_app _ rfl _ _ 22 rfl w.heap.size 5 i0 Tryd.underlying22 hi hz0 hz1 hz2 (some ⟨w.heap.size, 0, none⟩) 1 1 [0] rfl (own_lit _ _ [0] 1 rfl rfl (by decide) (Nat.le_refl _)) a n c l rfl (HX.out.alloc _) ?c1 ?c2 ?_))
  case c1 => omega
  case c2 => simp
  intro a1 c1 w1 ho1 hg1
  have HB : Hid (Below w.heap.size w w1) := (bal (Below.refl _ w) _).trans (app_below (own_lit (w := w) (B := w.heap.size) 5 #[.int .u8 0] [0] 1 rfl rfl (by decide) (Nat.le_refl _)) hg1 (Nat.le_refl _) (by simp))
  have HO := Lib.hid ho1.bs
  have HM := Lib.hid ho1.mine
  clear ho1 hg1
  go_wp2
  go_loop [3] (fun v => ∃ a' n' c' l', v = .slice a' n' c' ∧ Bs w1 a' n' c' l' ∧ stripI l' = stripI (0 :: l) ∧ PartOf a' a1 ∧ 0 < n') (fun v => lenOfV v)
  case atStart => exact ⟨a1, _, c1, _, rfl, HO.out, rfl, PartOf.refl _, by omega⟩
  case round =>
    obtain ⟨a', n', c', l', rfl, hb, he, hp, hn0⟩ := hrel
    have HE' := Lib.hid he
    have HP := Lib.hid hp
    have HL := Lib.hid hb.len
    have hcc := hb.2.1
    have hcm := hb.2.2.1
    unfold maxLen at hcm
    have HBS := Lib.hid hb
    have HV := Lib.hid (HRV.out _ _ _ _ _ hb)
    clear he hp hb
    by_cases hr : redI l' = true
    · rcases l' with _ | ⟨x, _ | ⟨y, r⟩⟩
      · simp [redI] at hr
      · simp [redI] at hr
      · have hn2 : 2 ≤ n' := by have := HL.out; simp only [List.length_cons] at this; omega
        have hn1 : (1 : Int) < n' := by omega
        obtain ⟨b, off, _, rfl, _, _⟩ := HBS.out.at_ (i := 0) (by omega)
        have HD := Lib.hid (bs_drop HBS.out (i := 1) (by omega))
        have HS := Lib.hid (strip_red hr)
        have hv : vI (x :: y :: r) = false := by simpa [redI] using hr
        rw [hv] at HV
        clear hr hv
        have hc1 : ¬ c' = 1 := by omega
        rw [if_neg hc1] at HD
        have HPD := Lib.hid (PartOf.drop b off 1 c')
        rw [if_neg hc1] at HPD
        go_wp2_with (go_at_call 20; go_must (refine HV.out.mono ?_); rintro e w' ⟨rfl, rfl⟩)
        exact ⟨⟨_, _, _, y :: r, rfl, HD.out, by rw [← HS.out]; exact HE'.out, HPD.out.trans HP.out, by omega⟩, by simp [lenOfV]; omega⟩
    · have hr' : redI l' = false := by simpa using hr
      have HS := Lib.hid (strip_not hr')
      have fin : Hid (senc (bnum l) = l') := by show _ = _; rw [← HE.out, ← HE'.out, HS.out]
      by_cases hn1 : n' = 1
      · subst hn1
        clear hr hr' HV
        go_wp2
        go_ret
        rw [fin.out, HL.out]
        exact ⟨_, _, rfl, HBS.out, HM.out.part HP.out, HB.out⟩
      · have hn2 : (1 : Int) < n' := by omega
        have hv : vI l' = true := by
          have h2 : 2 ≤ l'.length := by have := HL.out; omega
          simpa [redI, h2] using hr'
        rw [hv] at HV
        clear hr hr' hv
        go_wp2_with (go_at_call 20; go_must (refine HV.out.mono ?_); rintro e w' ⟨rfl, rfl⟩)
        go_ret
        rw [fin.out, HL.out]
        exact ⟨_, _, rfl, HBS.out, HM.out.part HP.out, HB.out⟩

/-- Unsigned: the code, and the digits -/
def uC (l : List UInt8) : Int := if vI l = true then (if hiB l = true then 9 else 0) else 6
def uL (l : List UInt8) : List UInt8 := if vI l = true ∧ hiB l = false then unsI l else []
theorem uns_not {l : List UInt8} (h : vI l = false) : uC l = 6 ∧ uL l = [] := by simp [uC, uL, h]
theorem uns_neg {l : List UInt8} (h : vI l = true) (hh : hiB l = true) : uC l = 9 ∧ uL l = [] := by simp [uC, uL, h, hh]
theorem uns_ok {l : List UInt8} (h : vI l = true) (hh : hiB l = false) : uC l = 0 ∧ uL l = unsI l := by simp [uC, uL, h, hh]
theorem sg_ge {l : List UInt8} (h : vI l = true) (hh : hiB l = false) : 0 ≤ sgI l := by
  have hs : ¬ sval l < 0 := by rw [sval_nonneg_iff]; simp [hh]
  have h1 : ¬ sgI l = -1 := fun e => hs ((sgI_neg_iff h).1 e)
  have := (sgI_bd l).1
  omega

theorem unsI_keep {x : UInt8} {l : List UInt8} (h : x ≠ 0 ∨ l = []) : unsI (x :: l) = x :: l := by
  rcases l with _ | ⟨y, r⟩
  · rfl
  · show (if x = 0 then _ else _) = _
    rw [if_neg (by rcases h with h | h; exact h; cases h)]

set_option maxRecDepth 100000 in
set_option maxHeartbeats 1000000 in
theorem unsigned_any {w : World} {a : Option Addr} {n c : Nat} {l : List UInt8} (h : Bs w a n c l) (hz : n ≤ 1000000) :
    Calls Tryd.prog 17 #[.slice a n c] w fun e w' => ∃ a' c', e = .returned (.tuple #[.slice a' (uL l).length c', .int .i64 (uC l)]) ∧ Bs w' a' (uL l).length c' (uL l) ∧ Mine w' w.heap.size a' ∧ Below w.heap.size w w' := by
  have hl := h.len
  have HV := Lib.hid (valid_any h)
  have HG := Lib.hid (sign_any h)
  rcases hv : vI l with _ | _
  · rw [hv] at HV
    rw [(uns_not hv).1, (uns_not hv).2]
    clear h hl hv HG
    go_enter Tryd.func17, Tryd.ntmps17
    go_wp2_with (go_at_call 19; go_must (refine HV.out.mono ?_); rintro e w' ⟨rfl, rfl⟩)
    go_ret2
    exact ⟨none, 0, rfl, Bs.nil_ _, Mine.none_ _ _, Below.refl _ _⟩
  · rw [hv] at HV
    rcases hh : hiB l with _ | _
    · rw [(uns_ok hv hh).1, (uns_ok hv hh).2]
      have hg0 := sg_ge hv hh
      generalize sgI l = g at *
      rcases l with _ | ⟨x, r⟩
      · cases hv
      · simp only [List.length_cons] at hl
        obtain ⟨b, off, _, rfl, _, hc0⟩ := h.at_ (i := 0) (by omega)
        simp only [List.getElem_cons_zero, Nat.add_zero] at hc0
        by_cases h1 : 1 < n ∧ x = 0
        · obtain ⟨hn1, rfl⟩ := h1
          have hn1' : (1 : Int) < n := by omega
          have hcc := h.2.1
          have hcm := h.2.2.1
          unfold maxLen at hcm
          have hc1 : ¬ c = 1 := by omega
          have e0 : (((0 : UInt8).toNat : Nat) : Int) = 0 := rfl
          rw [e0] at hc0
          have HD := Lib.hid (bs_drop_more h hc1)
          have HC := Lib.hid (clone_any HD.out (by omega))
          have hu : Hid (unsI (0 :: r) = r) := by
            show _ = _
            rcases r with _ | ⟨y, r⟩
            · simp only [List.length_nil] at hl; omega
            · rfl
          have hr : Hid (r.length = n - 1) := by show _ = _; omega
          clear h hl hv hh e0
          go_enter Tryd.func17, Tryd.ntmps17
          go_wp2_with (first | (go_at_call 19; go_must (refine HV.out.mono ?_); rintro e w' ⟨rfl, rfl⟩) | (go_at_call 21; go_must (refine HG.out.mono ?_); rintro e w' ⟨rfl, rfl⟩) | (go_at_call 35; go_must (refine HC.out.mono ?_); rintro e w' ⟨a', c', rfl, ho, hb⟩))
          go_ret2
          rw [hu.out, hr.out]
          exact ⟨a', c', rfl, ho.bs, ho.mine, hb⟩
        · have hu : Hid (unsI (x :: r) = x :: r) := unsI_keep (by
            by_cases hx : x = 0
            · right
              have h2 : ¬ 1 < n := fun h => h1 ⟨h, hx⟩
              exact List.eq_nil_of_length_eq_zero (by omega)
            · left; exact hx)
          have HC := Lib.hid (clone_any h hz)
          have hr : Hid ((x :: r).length = n) := by show _ = _; simpa using hl
          clear h hl hv hh
          by_cases hn1 : 1 < n
          · have hx0 : ((x.toNat : Int) == 0) = false := by
              rw [beq_eq_false_iff_ne]
              intro e
              exact h1 ⟨hn1, UInt8.toNat_inj.1 (by simpa using e)⟩
            have hn1' : (1 : Int) < n := by omega
            clear h1
            go_enter Tryd.func17, Tryd.ntmps17
            go_wp2_with (first | (go_at_call 19; go_must (refine HV.out.mono ?_); rintro e w' ⟨rfl, rfl⟩) | (go_at_call 21; go_must (refine HG.out.mono ?_); rintro e w' ⟨rfl, rfl⟩) | (go_at_call 35; go_must (refine HC.out.mono ?_); rintro e w' ⟨a', c', rfl, ho, hb⟩))
            go_ret2
            rw [hu.out, hr.out]
            exact ⟨a', c', rfl, ho.bs, ho.mine, hb⟩
          · have hn1' : ¬ (1 : Int) < n := by omega
            clear h1
            go_enter Tryd.func17, Tryd.ntmps17
            go_wp2_with (first | (go_at_call 19; go_must (refine HV.out.mono ?_); rintro e w' ⟨rfl, rfl⟩) | (go_at_call 21; go_must (refine HG.out.mono ?_); rintro e w' ⟨rfl, rfl⟩) | (go_at_call 35; go_must (refine HC.out.mono ?_); rintro e w' ⟨a', c', rfl, ho, hb⟩))
            go_ret2
            rw [hu.out, hr.out]
            exact ⟨a', c', rfl, ho.bs, ho.mine, hb⟩
    · rw [(uns_neg hv hh).1, (uns_neg hv hh).2]
      rw [sgI_neg hv hh] at HG
      clear h hl hv hh
      go_enter Tryd.func17, Tryd.ntmps17
      go_wp2_with (first | (go_at_call 19; go_must (refine HV.out.mono ?_); rintro e w' ⟨rfl, rfl⟩) | (go_at_call 21; go_must (refine HG.out.mono ?_); rintro e w' ⟨rfl, rfl⟩))
      go_ret2
      exact ⟨none, 0, rfl, Bs.nil_ _, Mine.none_ _ _, Below.refl _ _⟩

set_option maxRecDepth 100000 in
set_option maxHeartbeats 1000000 in
theorem ref_unsigned_any {w : World} {a : Option Addr} {n c : Nat} {l : List UInt8} (h : Bs w a n c l) :
    Calls Tryd.prog 18 #[.slice a n c] w fun e w' => (∃ a' c', e = .returned (.tuple #[.slice a' (uL l).length c', .int .i64 (uC l)]) ∧ Bs w a' (uL l).length c' (uL l)) ∧ w = w' := by
  have hl := h.len
  have HV := Lib.hid (ref_valid_any h)
  have HG := Lib.hid (ref_sign_any h)
  rcases hv : vI l with _ | _
  · rw [hv] at HV
    rw [(uns_not hv).1, (uns_not hv).2]
    clear h hl hv HG
    go_enter Tryd.func18, Tryd.ntmps18
    go_wp2_with (go_at_call 20; go_must (refine HV.out.mono ?_); rintro e w' ⟨rfl, rfl⟩)
    go_ret2
    exact ⟨⟨none, 0, rfl, Bs.nil_ _⟩, rfl⟩
  · rw [hv] at HV
    rcases hh : hiB l with _ | _
    · rw [(uns_ok hv hh).1, (uns_ok hv hh).2]
      have hg0 := sg_ge hv hh
      generalize sgI l = g at *
      rcases l with _ | ⟨x, r⟩
      · cases hv
      · simp only [List.length_cons] at hl
        obtain ⟨b, off, _, rfl, _, hc0⟩ := h.at_ (i := 0) (by omega)
        simp only [List.getElem_cons_zero, Nat.add_zero] at hc0
        by_cases h1 : 1 < n ∧ x = 0
        · obtain ⟨hn1, rfl⟩ := h1
          have hn1' : (1 : Int) < n := by omega
          have hcc := h.2.1
          have hcm := h.2.2.1
          unfold maxLen at hcm
          have hc1 : ¬ c = 1 := by omega
          have e0 : (((0 : UInt8).toNat : Nat) : Int) = 0 := rfl
          rw [e0] at hc0
          have HD := Lib.hid (bs_drop_more h hc1)
          have hu : Hid (unsI (0 :: r) = r) := by
            show _ = _
            rcases r with _ | ⟨y, r⟩
            · simp only [List.length_nil] at hl; omega
            · rfl
          have hr : Hid (r.length = n - 1) := by show _ = _; omega
          clear h hl hv hh e0
          go_enter Tryd.func18, Tryd.ntmps18
          go_wp2_with (first | (go_at_call 20; go_must (refine HV.out.mono ?_); rintro e w' ⟨rfl, rfl⟩) | (go_at_call 22; go_must (refine HG.out.mono ?_); rintro e w' ⟨rfl, rfl⟩))
          go_ret2
          rw [hu.out, hr.out]
          exact ⟨⟨_, _, rfl, HD.out⟩, rfl⟩
        · have hu : Hid (unsI (x :: r) = x :: r) := unsI_keep (by
            by_cases hx : x = 0
            · right
              have h2 : ¬ 1 < n := fun h => h1 ⟨h, hx⟩
              exact List.eq_nil_of_length_eq_zero (by omega)
            · left; exact hx)
          have HS := Lib.hid h
          have hr : Hid ((x :: r).length = n) := by show _ = _; simpa using hl
          clear h hl hv hh
          by_cases hn1 : 1 < n
          · have hx0 : ((x.toNat : Int) == 0) = false := by
              rw [beq_eq_false_iff_ne]
              intro e
              exact h1 ⟨hn1, UInt8.toNat_inj.1 (by simpa using e)⟩
            have hn1' : (1 : Int) < n := by omega
            clear h1
            go_enter Tryd.func18, Tryd.ntmps18
            go_wp2_with (first | (go_at_call 20; go_must (refine HV.out.mono ?_); rintro e w' ⟨rfl, rfl⟩) | (go_at_call 22; go_must (refine HG.out.mono ?_); rintro e w' ⟨rfl, rfl⟩))
            go_ret2
            rw [hu.out, hr.out]
            exact ⟨⟨_, _, rfl, HS.out⟩, rfl⟩
          · have hn1' : ¬ (1 : Int) < n := by omega
            clear h1
            go_enter Tryd.func18, Tryd.ntmps18
            go_wp2_with (first | (go_at_call 20; go_must (refine HV.out.mono ?_); rintro e w' ⟨rfl, rfl⟩) | (go_at_call 22; go_must (refine HG.out.mono ?_); rintro e w' ⟨rfl, rfl⟩))
            go_ret2
            rw [hu.out, hr.out]
            exact ⟨⟨_, _, rfl, HS.out⟩, rfl⟩
    · rw [(uns_neg hv hh).1, (uns_neg hv hh).2]
      rw [sgI_neg hv hh] at HG
      clear h hl hv hh
      go_enter Tryd.func18, Tryd.ntmps18
      go_wp2_with (first | (go_at_call 20; go_must (refine HV.out.mono ?_); rintro e w' ⟨rfl, rfl⟩) | (go_at_call 22; go_must (refine HG.out.mono ?_); rintro e w' ⟨rfl, rfl⟩))
      go_ret2
      exact ⟨⟨none, 0, rfl, Bs.nil_ _⟩, rfl⟩
end Go.Proofs.YtammegdfjgphkaaDoor
