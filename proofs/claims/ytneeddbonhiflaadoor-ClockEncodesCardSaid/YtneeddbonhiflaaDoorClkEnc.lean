/-
  Contracts of the program's EncodeGeneral and EncodeUTC.
-/
import Derived.Test.YtneeddbonhiflaaDoorClkValid
import Derived.Test.YtneeddbonhiflaaDoorAppend
import Derived.Test.YtneeddbonhiflaaDoorLit
import Derived.Test.YtneeddbonhiflaaDoorSlices
import Derived.Test.YtneeddbonhiflaaDoorInfoU8
import Derived.Test.YtneeddbonhiflaaDoorClNum
import Derived.LoopTactic
namespace Go.Proofs.YtneeddbonhiflaaDoor
open Go.RowKit

/-- pairs of digits -/
def prs (vs : List Int) : List UInt8 := vs.flatMap fun n => [dgB (n / 10), dgB n]
theorem prs_len (vs : List Int) : (prs vs).length = 2 * vs.length := by
  unfold prs
  induction vs with
  | nil => rfl
  | cons x l ih => rw [List.flatMap_cons, List.length_append, ih, List.length_cons]; simp; omega
theorem prs_take {vs : List Int} {j : Nat} (h : j < vs.length) : prs (vs.take (j + 1)) = prs (vs.take j) ++ [dgB (vs[j] / 10), dgB vs[j]] := by
  unfold prs
  rw [List.take_succ_eq_append_getElem h, List.flatMap_append]
  rfl
theorem dgB_mod {a b : Int} (h : a % 10 = b % 10) : dgB a = dgB b := by unfold dgB; rw [h]
theorem genL_prs (t : Tm) : genL t = prs [t.y / 100, t.y % 100, t.m, t.d, t.h, t.i, t.s] ++ [90] := by
  have e1 : dgB (t.y / 100 / 10) = dgB (t.y / 10 / 10 / 10) := dgB_mod (by omega)
  have e2 : dgB (t.y / 100) = dgB (t.y / 10 / 10) := dgB_mod (by omega)
  have e3 : dgB (t.y % 100 / 10) = dgB (t.y / 10) := dgB_mod (by omega)
  have e4 : dgB (t.y % 100) = dgB t.y := dgB_mod (by omega)
  unfold genL prs
  simp only [List.flatMap_cons, List.flatMap_nil, e1, e2, e3, e4]
  rfl
theorem utc_drop (t : Tm) : utcL t = (genL t).drop 2 := by
  unfold utcL genL
  rfl
theorem dg_int {n : Int} (h0 : 0 ≤ n) (h1 : n ≤ 9) : (48 + n : Int) = ((dgB n).toNat : Int) := by
  unfold dgB
  rw [UInt8.toNat_ofNat']
  omega
theorem u8_small {z : Int} (h0 : 0 ≤ z) (h1 : z ≤ 255) : IntKind.u8.wrap z = z := by rw [IntKind.wrap_u8']; omega

set_option maxRecDepth 100000 in
set_option maxHeartbeats 4000000 in
theorem pgen_no (y m d h i s : Int) (hok : okT ⟨y, m, d, h, i, s⟩ = false) (w : World) (hW : Wd w) :
    Calls Tryd.prog 11 #[.agg #[.int .i64 y, .int .i64 m, .int .i64 d, .int .i64 h, .int .i64 i, .int .i64 s]] w fun e w' => e = .returned (.tuple #[.slice none 0 0, .int .i64 8]) ∧ Below w.heap.size w w' := by
  have HV := Lib.hid (fun v (hq : Below w.heap.size w v) => pvalid_any ⟨y, m, d, h, i, s⟩ v (hW.below hq))
  unfold tmV at HV
  rw [hok] at HV
  clear hok hW
  dsimp only at HV
  have Z1 := Lib.hid (Blk.new w 23 #[.int .i64 y, .int .i64 m, .int .i64 d, .int .i64 h, .int .i64 i, .int .i64 s])
  have Q1 := Lib.hid (bal (Below.refl w.heap.size w) (.cells #[.int .i64 y, .int .i64 m, .int .i64 d, .int .i64 h, .int .i64 i, .int .i64 s] 23))
  obtain ⟨A, hA⟩ : ∃ A, w.heap.size = A := ⟨_, rfl⟩
  rw [hA] at Z1
  go_enter Tryd.func11, Tryd.ntmps11
  go_wp2_with fail
  generalize w.alloc (.cells #[.int .i64 y, .int .i64 m, .int .i64 d, .int .i64 h, .int .i64 i, .int .i64 s] 23) = w1 at *
  obtain ⟨z0, z1, z2, z3, z4, z5⟩ := Z1.out.cells6
  go_wp2_with fail
  with_reducible refine (HV.out _ Q1.out).mono ?_
  rintro e w2 ⟨rfl, q⟩
  have Q2 := Lib.hid (bthen Q1.out q)
  clear q z0 z1 z2 z3 z4 z5
  go_wp2_with fail
  go_ret2
  exact ⟨rfl, Q2.out⟩

set_option maxRecDepth 100000 in
set_option maxHeartbeats 8000000 in
theorem pgen_yes (y m d h i s : Int) (hok : okT ⟨y, m, d, h, i, s⟩ = true) (w : World) (hW : Wd w) :
    Calls Tryd.prog 11 #[.agg #[.int .i64 y, .int .i64 m, .int .i64 d, .int .i64 h, .int .i64 i, .int .i64 s]] w fun e w' => ∃ g c, e = .returned (.tuple #[.slice (some ⟨g, 0, none⟩) 15 c, .int .i64 0]) ∧ Bs w' (some ⟨g, 0, none⟩) 15 c (genL ⟨y, m, d, h, i, s⟩) ∧ Below w.heap.size w w' := by
  have HV := Lib.hid (fun v (hq : Below w.heap.size w v) => pvalid_any ⟨y, m, d, h, i, s⟩ v (hW.below hq))
  obtain ⟨i0, hi, hz0, hz1, hz2⟩ := info_parts info_u8
  have hb := okT_bounds hok
  have HG := Lib.hid (genL_prs ⟨y, m, d, h, i, s⟩)
  dsimp only at hb HG
  unfold tmV at HV
  rw [hok] at HV
  clear hok hW
  dsimp only at HV
  obtain ⟨⟨b1, b2⟩, ⟨b3, b4⟩, ⟨b5, b6⟩, ⟨b7, b8⟩, ⟨b9, b10⟩, ⟨b11, b12⟩⟩ := hb
  obtain ⟨p, hp⟩ : ∃ p, y / 100 = p := ⟨_, rfl⟩
  obtain ⟨r, hr⟩ : ∃ r, y % 100 = r := ⟨_, rfl⟩
  rw [hp, hr] at HG
  have u1 : y.tdiv 100 = p := by rw [Int.tdiv_eq_ediv_of_nonneg b1]; exact hp
  have u2 : y.tmod 100 = r := by rw [Int.tmod_eq_emod_of_nonneg b1]; exact hr
  have v1 : IntKind.i64.wrap p = p := wr_num (by omega)
  have v2 : IntKind.i64.wrap r = r := wr_num (by omega)
  obtain ⟨vs, hvs⟩ : ∃ vs : List Int, [p, r, m, d, h, i, s] = vs := ⟨_, rfl⟩
  have HB : Hid (∀ x ∈ vs, 0 ≤ x ∧ x ≤ 99) := by
    rw [Hid, ← hvs]
    intro x hx
    simp only [List.mem_cons, List.not_mem_nil, or_false] at hx
    rcases hx with rfl | rfl | rfl | rfl | rfl | rfl | rfl <;> omega
  have HL : Hid (vs.length = 7) := by rw [Hid, ← hvs]; rfl
  have HC : Hid (#[.int .i64 p, .int .i64 r, .int .i64 m, .int .i64 d, .int .i64 h, .int .i64 i, .int .i64 s] = (vs.map (Value.int .i64)).toArray) := by rw [Hid, ← hvs]; rfl
  rw [hvs] at HG
  clear hvs hp hr b1 b2 b3 b4 b5 b6 b7 b8 b9 b10 b11 b12
  have Z1 := Lib.hid (Blk.new w 23 #[.int .i64 y, .int .i64 m, .int .i64 d, .int .i64 h, .int .i64 i, .int .i64 s])
  have Q1 := Lib.hid (bal (Below.refl w.heap.size w) (.cells #[.int .i64 y, .int .i64 m, .int .i64 d, .int .i64 h, .int .i64 i, .int .i64 s] 23))
  obtain ⟨A, hA⟩ : ∃ A, w.heap.size = A := ⟨_, rfl⟩
  rw [hA] at Z1
  have L1 : Hid (A < (w.alloc (.cells #[.int .i64 y, .int .i64 m, .int .i64 d, .int .i64 h, .int .i64 i, .int .i64 s] 23)).heap.size) := Z1.out.lt
  go_enter Tryd.func11, Tryd.ntmps11
  go_wp2_with fail
  generalize w.alloc (.cells #[.int .i64 y, .int .i64 m, .int .i64 d, .int .i64 h, .int .i64 i, .int .i64 s] 23) = w1 at *
  obtain ⟨z0, z1, z2, z3, z4, z5⟩ := Z1.out.cells6
  go_wp2_with fail
  with_reducible refine (HV.out _ Q1.out).mono ?_
  rintro e w2 ⟨rfl, q⟩
  have Q2 := Lib.hid (bthen Q1.out q)
  have Z2 := Lib.hid (Z1.out.below q L1.out)
  clear q z0 z1 z2 z3 z4 z5 Z1 Q1 L1 HV
  obtain ⟨z0, z1, z2, z3, z4, z5⟩ := Z2.out.cells6
  obtain ⟨G, hG⟩ : ∃ G, w2.heap.size = G := ⟨_, rfl⟩
  have K3 := Lib.hid (Blk.new w2 3 #[.int .i64 p, .int .i64 r, .int .i64 m, .int .i64 d, .int .i64 h, .int .i64 i, .int .i64 s])
  rw [hG] at K3
  have Q3 := Lib.hid (bal Q2.out (.cells #[.int .i64 p, .int .i64 r, .int .i64 m, .int .i64 d, .int .i64 h, .int .i64 i, .int .i64 s] 3))
  go_wp2_with fail
  generalize w2.alloc (.cells #[.int .i64 p, .int .i64 r, .int .i64 m, .int .i64 d, .int .i64 h, .int .i64 i, .int .i64 s] 3) = w3 at *
  clear z0 z1 z2 z3 z4 z5 Z2 Q2 u1 u2 v1 v2 hG
  rw [HC.out] at K3
  obtain ⟨B, hB⟩ : ∃ B, w3.heap.size = B := ⟨_, rfl⟩
  have hGB : G < B := by rw [← hB]; exact K3.out.lt
  have hwB : w.heap.size ≤ B := by rw [← hB]; exact Q3.out.size
  have hBs : B ≤ w3.heap.size := Nat.le_of_eq hB.symm
  clear hB
  go_loopw [4, 28] (fun x k wr => ∃ a c, ∃ j : Nat, j ≤ 7 ∧ k = .int .i64 j ∧ x = .slice a (2 * j) c ∧ Own wr B 5 a (2 * j) c (prs (vs.take j)) ∧ Blk wr G 3 (vs.map (Value.int .i64)).toArray ∧ Below w.heap.size w wr ∧ B ≤ wr.heap.size) (fun _ k _ => 7 - (intOf k).toNat)
  case atStart => exact ⟨none, 0, 0, Nat.zero_le _, rfl, rfl, World.ownsRow_nil _ _ _ _, K3.out, Q3.out, hBs⟩
  case round =>
    obtain ⟨a, c, j, hj, rfl, rfl, ho, hk, hq, hsz⟩ := hrel
    have O4 := Lib.hid ho
    have K4 := Lib.hid hk
    have Q4 := Lib.hid hq
    clear ho hk hq K3 Q3
    have hj0 : (0 : Int) ≤ j := by omega
    by_cases hlt : j < 7
    · have hlt2 : (j : Int) < 7 := by omega
      have hjL : j < vs.length := by have := HL.out; omega
      have HST := Lib.hid (prs_take hjL)
      have hx := HB.out vs[j] (List.getElem_mem hjL)
      have kc := K4.out.cell j
      rw [List.getElem?_toArray, List.getElem?_map, List.getElem?_eq_getElem hjL, Option.map_some] at kc
      obtain ⟨x, hxx⟩ : ∃ x, vs[j] = x := ⟨_, rfl⟩
      rw [hxx] at hx HST kc
      have e1 : dgB x = dgB (x % 10) := dgB_mod (by omega)
      rw [e1] at HST
      have t1 : x.tdiv 10 = x / 10 := Int.tdiv_eq_ediv_of_nonneg hx.1
      have t2 : x.tmod 10 = x % 10 := Int.tmod_eq_emod_of_nonneg hx.1
      have f1 := dg_int (n := x / 10) (by omega) (by omega)
      have f2 := dg_int (n := x % 10) (by omega) (by omega)
      have w1 : IntKind.i64.wrap (x / 10) = x / 10 := wr_num (by omega)
      have w2 : IntKind.i64.wrap (x % 10) = x % 10 := wr_num (by omega)
      have w3 : IntKind.u8.wrap (x / 10) = x / 10 := u8_small (by omega) (by omega)
      have w4 : IntKind.u8.wrap (x % 10) = x % 10 := u8_small (by omega) (by omega)
      have w5 : IntKind.u8.wrap (48 + x / 10) = (dgB (x / 10)).toNat := by rw [u8_small (by omega) (by omega)]; exact f1
      have w6 : IntKind.u8.wrap (48 + x % 10) = (dgB (x % 10)).toNat := by rw [u8_small (by omega) (by omega)]; exact f2
      clear f1 f2 hx e1 hxx
      generalize dgB (x / 10) = d0 at *
      generalize dgB (x % 10) = d1 at *
      have SX := Lib.hid (bs_lit wr 5 #[.int .u8 d0.toNat, .int .u8 d1.toNat] [d0, d1] 2 rfl rfl (by decide))
      have OX := Lib.hid (O4.out.below (bal (Below.refl _ wr) (.cells #[.int .u8 d0.toNat, .int .u8 d1.toNat] 5)))
      have KX := Lib.hid (K4.out.alloc (.cells #[.int .u8 d0.toNat, .int .u8 d1.toNat] 5))
      have QX := Lib.hid (bal Q4.out (.cells #[.int .u8 d0.toNat, .int .u8 d1.toNat] 5))
      have HSZ : B ≤ (wr.alloc (.cells #[.int .u8 d0.toNat, .int .u8 d1.toNat] 5)).heap.size := by simp; omega
      go_wp2_with (at_builtin; go_must (refine wpList_app _ rfl _ _ 25 rfl B 5 i0 Tryd.underlying25 hi hz0 hz1 hz2 a (2 * j) c _ rfl OX.out _ 2 2 [d0, d1] rfl SX.out (by omega) HSZ ?_))
      intro a5 c5 w5 ho5 hg5
      have B5 := Lib.hid (app_below (OX.out) hg5 (Nat.le_refl _) HSZ)
      have Q5 : Hid (Below w.heap.size w w5) := QX.out.trans (B5.out.mono hwB)
      have K5 := Lib.hid (KX.out.below B5.out hGB)
      have O5 := Lib.hid ho5
      have hs5 : B ≤ w5.heap.size := by have := B5.out.size; have := HSZ; omega
      clear ho5 hg5 B5
      go_wp2
      go_roundw
      case rel => exact ⟨a5, c5, j + 1, by omega, by go_num, by rw [Nat.mul_add], by rw [HST.out, Nat.mul_add]; exact O5.out, K5.out, Q5.out, hs5⟩
      case measure => simp [intOf]; omega
    · obtain rfl : j = 7 := by omega
      have hlt2 : ¬ ((7 : Nat) : Int) < 7 := by omega
      have e : vs.take 7 = vs := List.take_of_length_le (by have := HL.out; omega)
      rw [e] at O4
      have SX := Lib.hid (bs_lit wr 5 #[.int .u8 90] [90] 1 rfl rfl (by decide))
      have OX := Lib.hid (O4.out.below (bal (Below.refl _ wr) (.cells #[.int .u8 90] 5)))
      have QX := Lib.hid (bal Q4.out (.cells #[.int .u8 90] 5))
      have HSZ : B ≤ (wr.alloc (.cells #[.int .u8 90] 5)).heap.size := by simp; omega
      go_wp2_with (at_builtin; go_must (refine wpList_app _ rfl _ _ 25 rfl B 5 i0 Tryd.underlying25 hi hz0 hz1 hz2 a (2 * 7) c _ rfl OX.out _ 1 1 [90] rfl SX.out (by omega) HSZ ?_))
      intro a5 c5 w5 ho5 hg5
      have B5 := Lib.hid (app_below (OX.out) hg5 (Nat.le_refl _) HSZ)
      have Q5 : Hid (Below w.heap.size w w5) := QX.out.trans (B5.out.mono hwB)
      obtain ⟨g, rfl, _, _⟩ := Own.pos ho5 (by omega)
      go_wp2_with fail
      go_ret2
      exact ⟨g, c5, rfl, by rw [HG.out]; exact ho5.bs, Q5.out⟩

theorem pgen_any (t : Tm) (w : World) (hW : Wd w) :
    Calls Tryd.prog 11 #[tmV t] w fun e w' => ∃ a c, e = .returned (.tuple #[.slice a (genE t).1.length c, .int .i64 (genE t).2]) ∧ Bs w' a (genE t).1.length c (genE t).1 ∧ Below w.heap.size w w' := by
  obtain ⟨y, m, d, h, i, s⟩ := t
  unfold genE
  rcases hok : okT ⟨y, m, d, h, i, s⟩ with _ | _
  · refine (pgen_no y m d h i s hok w hW).mono ?_
    rintro e w' ⟨he, q⟩
    exact ⟨none, 0, he, Bs.nil_ _, q⟩
  · rw [if_pos rfl]
    refine (pgen_yes y m d h i s hok w hW).mono ?_
    rintro e w' ⟨g, c, he, hb, q⟩
    dsimp only
    rw [genL_len]
    exact ⟨_, c, he, hb, q⟩

set_option maxRecDepth 100000 in
set_option maxHeartbeats 8000000 in
theorem putc_any (t : Tm) (w : World) (hW : Wd w) :
    Calls Tryd.prog 9 #[tmV t] w fun e w' => ∃ a c, e = .returned (.tuple #[.slice a (utcE t).1.length c, .int .i64 (utcE t).2]) ∧ Bs w' a (utcE t).1.length c (utcE t).1 ∧ Below w.heap.size w w' := by
  obtain ⟨y, m, d, h, i, s⟩ := t
  have HU := Lib.hid (utc_drop ⟨y, m, d, h, i, s⟩)
  unfold utcE tmV
  dsimp only
  have Z1 := Lib.hid (Blk.new w 23 #[.int .i64 y, .int .i64 m, .int .i64 d, .int .i64 h, .int .i64 i, .int .i64 s])
  have Q1 := Lib.hid (bal (Below.refl w.heap.size w) (.cells #[.int .i64 y, .int .i64 m, .int .i64 d, .int .i64 h, .int .i64 i, .int .i64 s] 23))
  rcases hok : okT ⟨y, m, d, h, i, s⟩ with _ | _
  · have HE := Lib.hid (fun v (hq : Below w.heap.size w v) => pgen_no y m d h i s hok v (hW.below hq))
    obtain ⟨A, hA⟩ : ∃ A, w.heap.size = A := ⟨_, rfl⟩
    rw [hA] at Z1
    clear hok hW
    rw [if_neg (by decide)]
    go_enter Tryd.func9, Tryd.ntmps9
    go_wp2_with fail
    generalize w.alloc (.cells #[.int .i64 y, .int .i64 m, .int .i64 d, .int .i64 h, .int .i64 i, .int .i64 s] 23) = w1 at *
    obtain ⟨z0, z1, z2, z3, z4, z5⟩ := Z1.out.cells6
    go_wp2_with fail
    with_reducible refine (HE.out _ Q1.out).mono ?_
    rintro e w2 ⟨rfl, q⟩
    have Q2 := Lib.hid (bthen Q1.out q)
    clear q z0 z1 z2 z3 z4 z5
    go_wp2_with fail
    go_ret2
    exact ⟨none, 0, rfl, Bs.nil_ _, Q2.out⟩
  · have HE := Lib.hid (fun v (hq : Below w.heap.size w v) => pgen_yes y m d h i s hok v (hW.below hq))
    have L1 : Hid (w.heap.size < (w.alloc (.cells #[.int .i64 y, .int .i64 m, .int .i64 d, .int .i64 h, .int .i64 i, .int .i64 s] 23)).heap.size) := Z1.out.lt
    obtain ⟨A, hA⟩ : ∃ A, w.heap.size = A := ⟨_, rfl⟩
    rw [hA] at Z1 L1
    clear hok hW
    rw [if_pos rfl]
    rw [HU.out]
    have hll := genL_len ⟨y, m, d, h, i, s⟩
    generalize genL ⟨y, m, d, h, i, s⟩ = R at *
    by_cases hlo : y < 1950
    · rw [if_pos (.inl hlo)]
      clear hll
      go_enter Tryd.func9, Tryd.ntmps9
      go_wp2_with fail
      generalize w.alloc (.cells #[.int .i64 y, .int .i64 m, .int .i64 d, .int .i64 h, .int .i64 i, .int .i64 s] 23) = w1 at *
      obtain ⟨z0, z1, z2, z3, z4, z5⟩ := Z1.out.cells6
      go_wp2_with fail
      with_reducible refine (HE.out _ Q1.out).mono ?_
      rintro e w2 ⟨g, c, rfl, hb, q⟩
      have Q2 := Lib.hid (bthen Q1.out q)
      have Z2 := Lib.hid (Z1.out.below q L1.out)
      clear q z0 z1 z2 z3 z4 z5 hb
      obtain ⟨z0, z1, z2, z3, z4, z5⟩ := Z2.out.cells6
      go_wp2_with fail
      go_ret2
      exact ⟨none, 0, rfl, Bs.nil_ _, Q2.out⟩
    by_cases hhi : 2049 < y
    · rw [if_pos (.inr hhi)]
      clear hll
      go_enter Tryd.func9, Tryd.ntmps9
      go_wp2_with fail
      generalize w.alloc (.cells #[.int .i64 y, .int .i64 m, .int .i64 d, .int .i64 h, .int .i64 i, .int .i64 s] 23) = w1 at *
      obtain ⟨z0, z1, z2, z3, z4, z5⟩ := Z1.out.cells6
      go_wp2_with fail
      with_reducible refine (HE.out _ Q1.out).mono ?_
      rintro e w2 ⟨g, c, rfl, hb, q⟩
      have Q2 := Lib.hid (bthen Q1.out q)
      have Z2 := Lib.hid (Z1.out.below q L1.out)
      clear q z0 z1 z2 z3 z4 z5 hb
      obtain ⟨z0, z1, z2, z3, z4, z5⟩ := Z2.out.cells6
      go_wp2_with fail
      go_ret2
      exact ⟨none, 0, rfl, Bs.nil_ _, Q2.out⟩
    · rw [if_neg (by omega)]
      dsimp only
      rw [List.length_drop, hll]
      clear hll
      go_enter Tryd.func9, Tryd.ntmps9
      go_wp2_with fail
      generalize w.alloc (.cells #[.int .i64 y, .int .i64 m, .int .i64 d, .int .i64 h, .int .i64 i, .int .i64 s] 23) = w1 at *
      obtain ⟨z0, z1, z2, z3, z4, z5⟩ := Z1.out.cells6
      go_wp2_with fail
      with_reducible refine (HE.out _ Q1.out).mono ?_
      rintro e w2 ⟨g, c, rfl, hb, q⟩
      have Q2 := Lib.hid (bthen Q1.out q)
      have Z2 := Lib.hid (Z1.out.below q L1.out)
      have hc := hb.2.1
      have SD := Lib.hid (bs_drop hb (i := 2) (by omega))
      rw [if_neg (by omega)] at SD
      have hc1 : (15 : Int) ≤ c := by omega
      have hc2 : ¬ c = 2 := by omega
      have hc3 : (2 : Int) ≤ c := by omega
      clear q z0 z1 z2 z3 z4 z5 hb hc
      obtain ⟨z0, z1, z2, z3, z4, z5⟩ := Z2.out.cells6
      go_wp2_with fail
      go_ret2
      exact ⟨_, _, rfl, SD.out, Q2.out⟩
end Go.Proofs.YtneeddbonhiflaaDoor
