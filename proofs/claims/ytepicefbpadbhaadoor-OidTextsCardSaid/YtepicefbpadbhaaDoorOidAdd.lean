/-
  Contract of the closure that appends a subidentifier (in Encode of the program).
-/
import Derived.Test.YtepicefbpadbhaaDoorOidRefEnc
import Derived.Test.YtepicefbpadbhaaDoorRangeBox
import Derived.Laws.BitsAllLaws
import Derived.Laws.Shifts
namespace Go.Proofs.YtepicefbpadbhaaDoor
open Go.RowKit

/-- the octets of the digits from number b on, counted from the lowest -/
def gO (v b : Nat) : List UInt8 := if v / 128 ^ b = 0 then [] else subO (v / 128 ^ b) false
theorem gO_top {v : Nat} (h : v ≤ 4294967295) : gO v 5 = [] := by
  unfold gO
  rw [if_pos (by omega)]
theorem gO_none {v b u : Nat} (hu : v / 128 ^ b = u) (h : u = 0) : gO v b = gO v (b + 1) := by
  have h1 : v / 128 ^ (b + 1) = u / 128 := by rw [Nat.pow_succ, ← Nat.div_div_eq_div_mul, hu]
  unfold gO
  rw [h1, hu, if_pos h, if_pos (by omega)]
theorem gO_one {v b u : Nat} (hu : v / 128 ^ b = u) (h : u ≠ 0) : gO v b = gO v (b + 1) ++ [UInt8.ofNat (u % 128 + 128)] := by
  have h1 : v / 128 ^ (b + 1) = u / 128 := by rw [Nat.pow_succ, ← Nat.div_div_eq_div_mul, hu]
  unfold gO
  rw [h1, hu, if_neg h]
  by_cases h2 : u < 128
  · rw [if_pos (by omega), subO_small h2, if_neg (by simp), show u % 128 = u from by omega]
    rfl
  · rw [if_neg (by omega), subO_big h2, if_neg (by simp)]
theorem gO_end (v : Nat) : subO v true = gO v 1 ++ [UInt8.ofNat (v % 128)] := by
  unfold gO
  rw [Nat.pow_one]
  by_cases h : v < 128
  · rw [if_pos (by omega), subO_small h, if_pos rfl, show v % 128 = v from by omega]
    rfl
  · rw [if_neg (by omega), subO_big h, if_pos rfl]
theorem or128 : ∀ x : Fin 256, x.val ||| 128 = x.val % 128 + 128 := by decide +kernel
theorem hi_or (u : Nat) : bits BinOp.or IntKind.u8 ((u : Int) % 256) 128 = ((u % 128 + 128 : Nat) : Int) := by
  have e : (u : Int) % 256 = ((u % 256 : Nat) : Int) := by omega
  rw [e]
  have h := u8_or_nat (u % 256) 128 (by omega) (by omega)
  have h2 := or128 ⟨u % 256, by omega⟩
  simp only at h2
  rw [h2, show u % 256 % 128 = u % 128 from by omega] at h
  exact h
/-- a variable's box that holds a slice of bytes of the call's own -/
def BxOwn (w : World) (B base : Nat) (l : List UInt8) : Prop := ∃ a c, Boxed w B 32 (.slice a l.length c) ∧ Own w base 5 a l.length c l
/-- c = append(c, x): what it leaves -/
theorem bx_app {w w1 : World} {B base m : Nat} {a a' : Option Addr} {c c' : Nat} {l : List UInt8} {x : UInt8} {o : Obj} (hB : B < base) (hs : base ≤ w.heap.size) (h1 : Boxed w B 32 (.slice a m c)) (h2 : Own w base 5 a m c l)
    (ho : Own w1 base 5 a' (m + 1) c' (l ++ [x])) (hg : (w.alloc o).grownBy w1 (Value.ownBlock (.slice a m c))) :
    Boxed w1 B 32 (.slice a m c) ∧ BxOwn (w1.setCell ⟨B, 0, none⟩ (.slice a' (m + 1) c')) B base (l ++ [x]) ∧ Below B w (w1.setCell ⟨B, 0, none⟩ (.slice a' (m + 1) c')) := by
  have hn := ho.bs.len
  have q : Below base w w1 := ((Below.refl base w).alloc (by omega) _).trans (app_below (World.ownsRow.alloc h2 _) hg (Nat.le_refl _) (by simp; omega))
  have m1 : Boxed w1 B 32 (.slice a m c) := (q.block B hB).trans h1
  rw [← hn] at ho ⊢
  refine ⟨m1, ⟨a', c', m1.set _, ho.keep fun y hy => Below.heap_setCell _ _ _ _ (by have := (ho.base y hy).1; show y.block ≠ B; omega)⟩, ?_⟩
  exact (q.mono (show B ≤ base by omega)).setCell (p := ⟨B, 0, none⟩) (Nat.le_refl _) _

set_option maxRecDepth 100000 in
set_option maxHeartbeats 8000000 in
theorem add_any {w : World} {B base : Nat} {l : List UInt8} (h : BxOwn w B base l) (hB : B < base) (hs : base ≤ w.heap.size) (hl : l.length ≤ 1000000) {v : Nat} (hv : v ≤ 4294967295) :
    Calls Tryd.prog 32 #[.int .u32 (v : Int), .pointer (some ⟨B, 0, none⟩)] w fun e w' => e = .returned (.tuple #[]) ∧ BxOwn w' B base (l ++ subO v true) ∧ Below B w w' := by
  obtain ⟨i0, hi, hz0, hz1, hz2⟩ := info_parts info_u8
  have hv0 : (0 : Int) ≤ v := by omega
  have hv1 : (v : Int) ≤ 4294967295 := by omega
  have HG := Lib.hid (gO_end v)
  have HT := Lib.hid (gO_top hv)
  have hgl : ∀ b, (gO v b).length ≤ 5 := by
    intro b
    unfold gO
    split
    · simp
    · refine subO_len false (Nat.le_trans (Nat.div_le_self _ _) hv)
  have HH := Lib.hid h
  clear h
  go_enter Tryd.func32, Tryd.ntmps32
  go_wp2_with fail
  go_loopw [3] (fun bv wr => ∃ b : Nat, b ≤ 4 ∧ bv = .int .i64 b ∧ BxOwn wr B base (l ++ gO v (b + 1)) ∧ Below B w wr) (fun bv _ => (intOf bv).toNat)
  case atStart => exact ⟨4, Nat.le_refl _, rfl, by rw [HT.out, List.append_nil]; exact HH.out, Below.refl _ _⟩
  case round =>
    obtain ⟨b, hb, rfl, ⟨a, c, h1, h2⟩, hbw⟩ := hrel
    have HB := Lib.hid hbw
    have hsz := hbw.size
    have c1 := h1.cell
    have f1 := h1.frozen
    have H1 := Lib.hid h1
    have H2 := Lib.hid h2
    have hlT : (l ++ gO v (b + 1)).length ≤ 1000005 := by rw [List.length_append]; have := hgl (b + 1); omega
    obtain ⟨T, hT⟩ : ∃ T, l ++ gO v (b + 1) = T := ⟨_, rfl⟩
    rw [hT] at H1 H2 c1 hlT
    obtain ⟨M, hM⟩ : ∃ M, T.length = M := ⟨_, rfl⟩
    rw [hM] at H1 H2 c1 hlT
    have HTn := Lib.hid hT
    have HM := Lib.hid hM
    have hbb : b = 0 ∨ b = 1 ∨ b = 2 ∨ b = 3 ∨ b = 4 := by omega
    clear h1 h2 hbw hT hM
    rcases hbb with rfl | rfl | rfl | rfl | rfl
    · -- the last octet
      obtain ⟨r, hr⟩ : ∃ r, v % 128 = r := ⟨_, rfl⟩
      have hr2 : (v : Int) % 128 = r := by omega
      have hw : IntKind.u8.wrap (r : Int) = r := by rw [IntKind.wrap_u8]; omega
      have hr3 : r < 128 := by omega
      have hr4 : (0 : Int) ≤ r := by omega
      have hr5 : (r : Int) < 128 := by omega
      have HE : Hid (l ++ subO v true = T ++ [UInt8.ofNat r]) := by rw [Hid, ← HTn.out, HG.out, hr, List.append_assoc]
      have HLIT : Hid (Bs (wr.alloc (.cells #[.int .u8 (r : Int)] 5)) (some ⟨wr.heap.size, 0, none⟩) 1 1 [UInt8.ofNat r]) := bs_lit _ _ _ _ 1 (by simp [cellsOf]; omega) rfl (by unfold maxLen; omega)
      clear hr hgl
      go_wp2_with (at_builtin; go_must (refine wpList_app _ rfl _ _ 32 rfl base 5 i0 Tryd.underlying32 hi hz0 hz1 hz2 a M c T rfl (World.ownsRow.alloc H2.out _) (some ⟨wr.heap.size, 0, none⟩) 1 1 [UInt8.ofNat r] rfl HLIT.out (by omega) (by simp; omega) ?_))
      intro a3 c3 w3 ho3 hg3
      obtain ⟨m1, m2, m3⟩ := bx_app hB (by omega) H1.out H2.out ho3 hg3
      have HM2 := Lib.hid m2
      have HM3 := Lib.hid (HB.out.trans m3)
      have d1 := m1.cell
      have e1 := m1.frozen
      clear ho3 hg3 m1 m2 m3
      go_wp2
      go_end0
      exact ⟨rfl, by rw [HE.out]; exact HM2.out, HM3.out⟩
    · obtain ⟨u, hu⟩ : ∃ u, v / 128 ^ 1 = u := ⟨_, rfl⟩
      have hu2 : (v : Int) / 128 = u := by omega
      have hu0 : (0 : Int) ≤ u := by omega
      by_cases h0 : u = 0
      · have HE := Lib.hid (gO_none hu h0)
        have h0' : ¬ (u : Int) > 0 := by omega
        clear hu h0 hgl
        go_wp2_with fail
        exact ⟨⟨0, by omega, by go_num, ⟨a, c, by rw [HE.out, HTn.out, HM.out]; exact H1.out, by rw [HE.out, HTn.out, HM.out]; exact H2.out⟩, HB.out⟩, by simp [intOf]⟩
      · have HE := Lib.hid (gO_one hu h0)
        have h0' : (u : Int) > 0 := by omega
        obtain ⟨r, hr⟩ : ∃ r, u % 128 + 128 = r := ⟨_, rfl⟩
        have hor := hi_or u
        rw [hr] at HE hor
        have hr3 : r < 256 := by omega
        have HLIT : Hid (Bs (wr.alloc (.cells #[.int .u8 (r : Int)] 5)) (some ⟨wr.heap.size, 0, none⟩) 1 1 [UInt8.ofNat r]) := bs_lit _ _ _ _ 1 (by simp [cellsOf]; omega) rfl (by unfold maxLen; omega)
        clear hu h0 hr hgl
        go_wp2_with (at_builtin; go_must (refine wpList_app _ rfl _ _ 32 rfl base 5 i0 Tryd.underlying32 hi hz0 hz1 hz2 a M c T rfl (World.ownsRow.alloc H2.out _) (some ⟨wr.heap.size, 0, none⟩) 1 1 [UInt8.ofNat r] rfl HLIT.out (by omega) (by simp; omega) ?_))
        intro a3 c3 w3 ho3 hg3
        obtain ⟨m1, m2, m3⟩ := bx_app hB (by omega) H1.out H2.out ho3 hg3
        have HM2 := Lib.hid m2
        have HM3 := Lib.hid (HB.out.trans m3)
        have d1 := m1.cell
        have e1 := m1.frozen
        clear ho3 hg3 m1 m2 m3
        go_wp2
        exact ⟨⟨0, by omega, by go_num, by rw [HE.out, ← List.append_assoc, HTn.out]; exact HM2.out, HM3.out⟩, by simp [intOf]⟩
    · obtain ⟨u, hu⟩ : ∃ u, v / 128 ^ 2 = u := ⟨_, rfl⟩
      have hu2 : (v : Int) / 16384 = u := by omega
      have hu0 : (0 : Int) ≤ u := by omega
      by_cases h0 : u = 0
      · have HE := Lib.hid (gO_none hu h0)
        have h0' : ¬ (u : Int) > 0 := by omega
        clear hu h0 hgl
        go_wp2_with fail
        exact ⟨⟨1, by omega, by go_num, ⟨a, c, by rw [HE.out, HTn.out, HM.out]; exact H1.out, by rw [HE.out, HTn.out, HM.out]; exact H2.out⟩, HB.out⟩, by simp [intOf]⟩
      · have HE := Lib.hid (gO_one hu h0)
        have h0' : (u : Int) > 0 := by omega
        obtain ⟨r, hr⟩ : ∃ r, u % 128 + 128 = r := ⟨_, rfl⟩
        have hor := hi_or u
        rw [hr] at HE hor
        have hr3 : r < 256 := by omega
        have HLIT : Hid (Bs (wr.alloc (.cells #[.int .u8 (r : Int)] 5)) (some ⟨wr.heap.size, 0, none⟩) 1 1 [UInt8.ofNat r]) := bs_lit _ _ _ _ 1 (by simp [cellsOf]; omega) rfl (by unfold maxLen; omega)
        clear hu h0 hr hgl
        go_wp2_with (at_builtin; go_must (refine wpList_app _ rfl _ _ 32 rfl base 5 i0 Tryd.underlying32 hi hz0 hz1 hz2 a M c T rfl (World.ownsRow.alloc H2.out _) (some ⟨wr.heap.size, 0, none⟩) 1 1 [UInt8.ofNat r] rfl HLIT.out (by omega) (by simp; omega) ?_))
        intro a3 c3 w3 ho3 hg3
        obtain ⟨m1, m2, m3⟩ := bx_app hB (by omega) H1.out H2.out ho3 hg3
        have HM2 := Lib.hid m2
        have HM3 := Lib.hid (HB.out.trans m3)
        have d1 := m1.cell
        have e1 := m1.frozen
        clear ho3 hg3 m1 m2 m3
        go_wp2
        exact ⟨⟨1, by omega, by go_num, by rw [HE.out, ← List.append_assoc, HTn.out]; exact HM2.out, HM3.out⟩, by simp [intOf]⟩
    · obtain ⟨u, hu⟩ : ∃ u, v / 128 ^ 3 = u := ⟨_, rfl⟩
      have hu2 : (v : Int) / 2097152 = u := by omega
      have hu0 : (0 : Int) ≤ u := by omega
      by_cases h0 : u = 0
      · have HE := Lib.hid (gO_none hu h0)
        have h0' : ¬ (u : Int) > 0 := by omega
        clear hu h0 hgl
        go_wp2_with fail
        exact ⟨⟨2, by omega, by go_num, ⟨a, c, by rw [HE.out, HTn.out, HM.out]; exact H1.out, by rw [HE.out, HTn.out, HM.out]; exact H2.out⟩, HB.out⟩, by simp [intOf]⟩
      · have HE := Lib.hid (gO_one hu h0)
        have h0' : (u : Int) > 0 := by omega
        obtain ⟨r, hr⟩ : ∃ r, u % 128 + 128 = r := ⟨_, rfl⟩
        have hor := hi_or u
        rw [hr] at HE hor
        have hr3 : r < 256 := by omega
        have HLIT : Hid (Bs (wr.alloc (.cells #[.int .u8 (r : Int)] 5)) (some ⟨wr.heap.size, 0, none⟩) 1 1 [UInt8.ofNat r]) := bs_lit _ _ _ _ 1 (by simp [cellsOf]; omega) rfl (by unfold maxLen; omega)
        clear hu h0 hr hgl
        go_wp2_with (at_builtin; go_must (refine wpList_app _ rfl _ _ 32 rfl base 5 i0 Tryd.underlying32 hi hz0 hz1 hz2 a M c T rfl (World.ownsRow.alloc H2.out _) (some ⟨wr.heap.size, 0, none⟩) 1 1 [UInt8.ofNat r] rfl HLIT.out (by omega) (by simp; omega) ?_))
        intro a3 c3 w3 ho3 hg3
        obtain ⟨m1, m2, m3⟩ := bx_app hB (by omega) H1.out H2.out ho3 hg3
        have HM2 := Lib.hid m2
        have HM3 := Lib.hid (HB.out.trans m3)
        have d1 := m1.cell
        have e1 := m1.frozen
        clear ho3 hg3 m1 m2 m3
        go_wp2
        exact ⟨⟨2, by omega, by go_num, by rw [HE.out, ← List.append_assoc, HTn.out]; exact HM2.out, HM3.out⟩, by simp [intOf]⟩
    · obtain ⟨u, hu⟩ : ∃ u, v / 128 ^ 4 = u := ⟨_, rfl⟩
      have hu2 : (v : Int) / 268435456 = u := by omega
      have hu0 : (0 : Int) ≤ u := by omega
      by_cases h0 : u = 0
      · have HE := Lib.hid (gO_none hu h0)
        have h0' : ¬ (u : Int) > 0 := by omega
        clear hu h0 hgl
        go_wp2_with fail
        exact ⟨⟨3, by omega, by go_num, ⟨a, c, by rw [HE.out, HTn.out, HM.out]; exact H1.out, by rw [HE.out, HTn.out, HM.out]; exact H2.out⟩, HB.out⟩, by simp [intOf]⟩
      · have HE := Lib.hid (gO_one hu h0)
        have h0' : (u : Int) > 0 := by omega
        obtain ⟨r, hr⟩ : ∃ r, u % 128 + 128 = r := ⟨_, rfl⟩
        have hor := hi_or u
        rw [show (u : Int) % 256 = u from by omega] at hor
        rw [hr] at HE hor
        have hr3 : r < 256 := by omega
        have HLIT : Hid (Bs (wr.alloc (.cells #[.int .u8 (r : Int)] 5)) (some ⟨wr.heap.size, 0, none⟩) 1 1 [UInt8.ofNat r]) := bs_lit _ _ _ _ 1 (by simp [cellsOf]; omega) rfl (by unfold maxLen; omega)
        clear hu h0 hr hgl
        go_wp2_with (at_builtin; go_must (refine wpList_app _ rfl _ _ 32 rfl base 5 i0 Tryd.underlying32 hi hz0 hz1 hz2 a M c T rfl (World.ownsRow.alloc H2.out _) (some ⟨wr.heap.size, 0, none⟩) 1 1 [UInt8.ofNat r] rfl HLIT.out (by omega) (by simp; omega) ?_))
        intro a3 c3 w3 ho3 hg3
        obtain ⟨m1, m2, m3⟩ := bx_app hB (by omega) H1.out H2.out ho3 hg3
        have HM2 := Lib.hid m2
        have HM3 := Lib.hid (HB.out.trans m3)
        have d1 := m1.cell
        have e1 := m1.frozen
        clear ho3 hg3 m1 m2 m3
        go_wp2
        exact ⟨⟨3, by omega, by go_num, by rw [HE.out, ← List.append_assoc, HTn.out]; exact HM2.out, HM3.out⟩, by simp [intOf]⟩
end Go.Proofs.YtepicefbpadbhaaDoor
