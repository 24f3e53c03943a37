/-
  Contract of groups (of radix).
-/
import Derived.Test.YtammegdfjgphkaaDoorIntRow
namespace Go.Proofs.YtammegdfjgphkaaDoor
open Go.RowKit

set_option maxRecDepth 100000 in
set_option maxHeartbeats 4000000 in
theorem groups_256 {w : World} {a : Option Addr} {n c : Nat} {l : List UInt8} (h : Bs w a n c l) (hz : n ≤ 1000000) :
    Calls Tryd.prog 56 #[.agg #[.int .u64 256, .int .i64 4, .int .u64 4294967296], .slice a n c] w fun e w' => ∃ a' m c' L, e = .returned (.slice a' m c') ∧ m ≤ n ∧ OwnU w' w.heap.size 52 a' m c' L ∧ (∀ x ∈ L, x < 4294967296) ∧ gval 4294967296 L = bnum l ∧ Below w.heap.size w w' := by
  obtain ⟨i0, hi, hz0, hz1, hz2⟩ := info_parts info_u64
  have HX := Lib.hid h
  have HL := Lib.hid h.len
  obtain ⟨K, hK⟩ : ∃ K, (n + 4 - 1) / 4 = K := ⟨_, rfl⟩
  have hK2 : ((n : Int) + 4 - 1) / 4 = K := by omega
  have hK3 : ((n : Int) + 3) / 4 = K := by omega
  have hKn : K ≤ n := by omega
  have HG0 := Lib.hid (grp_start (b := 256) (s := 4) (by omega) (by omega) l)
  rw [HL.out, hK] at HG0
  have HW := Lib.hid (Blk.new w 54 #[.int .u64 256, .int .i64 4, .int .u64 4294967296])
  have hb0 := Lib.hid (bal (Below.refl w.heap.size w) (.cells #[.int .u64 256, .int .i64 4, .int .u64 4294967296] 54))
  obtain ⟨w1, hw1⟩ : ∃ w1, w.alloc (.cells #[.int .u64 256, .int .i64 4, .int .u64 4294967296] 54) = w1 := ⟨_, rfl⟩
  have hs1 : w1.heap.size = w.heap.size + 1 := by rw [← hw1]; simp
  obtain ⟨g, hg⟩ : ∃ g, w.heap.size = g := ⟨_, rfl⟩
  rw [hw1] at HW hb0
  rw [hg] at HW hs1
  have y0 := HW.out.cell 0
  have y1 := HW.out.cell 1
  have y2 := HW.out.cell 2
  have yl := HW.out.lt
  simp only [List.getElem?_toArray, List.getElem?_cons_zero, List.getElem?_cons_succ] at y0 y1 y2
  clear h
  go_enter Tryd.func56, Tryd.ntmps56
  go_wp2_with (at_make; go_must (refine wpList_make_full _ rfl _ _ 64 rfl w.heap.size 52 i0 (.int .u64 0) 1 Tryd.underlying64 hi hz0 hz1 .i64 .i64 _ _ K rfl rfl hK2 hK2 (by rw [hz2]; omega) (by unfold maxLen; omega) (by rw [hs1, hg]; omega) ?_); intro w2 ho2 hg2)
  rw [made_zerosU, hs1] at ho2
  obtain ⟨g1, hg1⟩ : ∃ g1, g + 1 = g1 := ⟨_, rfl⟩
  rw [hg1] at ho2
  have HO : Hid (OwnU w2 w.heap.size 52 (some ⟨g1, 0, none⟩) K K (List.replicate K 0)) := ho2
  have HB : Hid (Below w.heap.size w w2) := hb0.out.grown hg2 (by rw [hs1]; omega) (fun _ h => by cases h)
  have HW2 : Hid (Blk w2 g 54 #[.int .u64 256, .int .i64 4, .int .u64 4294967296]) := HW.out.keep (hg2.block g (by rw [hs1]; omega) (by simp))
  clear ho2 hg2 y0 y1 y2 yl
  go_wp2
  go_loopw [21] (fun i wr => ∃ k : Nat, ∃ L, k ≤ n ∧ i = .int .i64 k ∧ OwnU wr w.heap.size 52 (some ⟨g1, 0, none⟩) K K L ∧ Grp 256 4 l k L ∧ Blk wr g 54 #[.int .u64 256, .int .i64 4, .int .u64 4294967296] ∧ Below w.heap.size w wr) (fun i _ => n - (intOf i).toNat)
  case atStart => exact ⟨0, _, by omega, rfl, HO.out, HG0.out, HW2.out, HB.out⟩
  case round =>
    obtain ⟨k, L, hk, rfl, ho, hgr, hw, hb⟩ := hrel
    have HB2 := Lib.hid hb
    have HG := Lib.hid hgr
    have y0 := hw.cell 0
    have y1 := hw.cell 1
    have y2 := hw.cell 2
    have yl := hw.lt
    simp only [List.getElem?_toArray, List.getElem?_cons_zero, List.getElem?_cons_succ] at y0 y1 y2
    have HW3 := Lib.hid hw
    clear hb hgr hw
    by_cases hlt : k < n
    · obtain ⟨at_, p, e1, ⟨hk2, hp⟩, hpb, hg2⟩ := grp_step (by omega) (by omega) HG.out (by rw [HL.out]; exact hlt) (UInt8.toNat_lt _)
      have hc := ho.cell hk2
      have hf := ho.frozen at_
      rw [hp] at hc
      obtain ⟨b, off, hkl, rfl, _, hx⟩ := (HX.out.below HB2.out).at_ hlt
      generalize l[k] = x at *
      have HS := Lib.hid (ho.stored at_ (p * 256 + x.toNat))
      have HG2 := Lib.hid hg2
      rw [HL.out] at e1
      obtain ⟨B, hB⟩ : ∃ B, (n - 1 - k) / 4 = B := ⟨_, rfl⟩
      rw [hB] at e1
      have hB2 : ((n : Int) - 1 - k) / 4 = B := by omega
      have hA : (K : Int) - 1 - B = at_ := by omega
      have hxb := byte_bd x
      have hpb2 : ((p * 256 + x.toNat : Nat) : Int) < 4294967296 := by omega
      have hm1 : IntKind.u64.wrap ((p : Int) * 256) = (p * 256 : Nat) := by rw [IntKind.wrap_u64]; omega
      have hatK : at_ < K := by omega
      have hatK' : (at_ : Int) < K := by omega
      have hat0 : (0 : Int) ≤ at_ := by omega
      have hk0 : (0 : Int) ≤ k := by omega
      have hk1 : (k : Int) < n := by omega
      have hg1l : g1 < wr.heap.size := (ho.base _ rfl).2
      clear ho hg2 hk2 hp hkl HG
      go_wp2
      go_region
      go_wp2
      go_roundw
      case rel =>
        refine ⟨k + 1, _, by omega, by go_num, ?_, HG2.out, ?_, ?_⟩
        · have e := HS.out
          rw [Int.natCast_add, Int.natCast_mul] at e
          exact e.drewN 1
        · exact (HW3.out.far (p := ⟨g1, at_, none⟩) (by simp; omega) _).drewN 1
        · exact below_drewN (HB2.out.setCell (p := ⟨g1, at_, none⟩) (by simp; omega) _) 1
      case measure => simp [intOf]; omega
    · have HO2 := Lib.hid ho
      have hkn : k = n := by omega
      subst hkn
      obtain ⟨f1, f2⟩ := grp_end HG.out (by rw [HL.out]; omega)
      have F1 := Lib.hid f1
      have F2 := Lib.hid f2
      clear ho f1 f2
      go_wp2
      go_ret
      rw [hg1]
      exact ⟨_, K, K, L, rfl, hKn, HO2.out, F1.out, F2.out, HB2.out⟩

set_option maxRecDepth 100000 in
set_option maxHeartbeats 4000000 in
theorem groups_10 {w : World} {a : Option Addr} {n c : Nat} {l : List UInt8} (h : Bs w a n c l) (hz : n ≤ 1000000) (h10 : ∀ x ∈ l, x.toNat < 10) :
    Calls Tryd.prog 56 #[.agg #[.int .u64 10, .int .i64 9, .int .u64 1000000000], .slice a n c] w fun e w' => ∃ a' m c' L, e = .returned (.slice a' m c') ∧ m ≤ n ∧ OwnU w' w.heap.size 52 a' m c' L ∧ (∀ x ∈ L, x < 1000000000) ∧ gval 1000000000 L = dgv 10 l ∧ Below w.heap.size w w' := by
  obtain ⟨i0, hi, hz0, hz1, hz2⟩ := info_parts info_u64
  have HX := Lib.hid h
  have HL := Lib.hid h.len
  have H10 := Lib.hid h10
  obtain ⟨K, hK⟩ : ∃ K, (n + 9 - 1) / 9 = K := ⟨_, rfl⟩
  have hK2 : ((n : Int) + 9 - 1) / 9 = K := by omega
  have hK3 : ((n : Int) + 8) / 9 = K := by omega
  have hKn : K ≤ n := by omega
  have HG0 := Lib.hid (grp_start (b := 10) (s := 9) (by omega) (by omega) l)
  rw [HL.out, hK] at HG0
  have HW := Lib.hid (Blk.new w 54 #[.int .u64 10, .int .i64 9, .int .u64 1000000000])
  have hb0 := Lib.hid (bal (Below.refl w.heap.size w) (.cells #[.int .u64 10, .int .i64 9, .int .u64 1000000000] 54))
  obtain ⟨w1, hw1⟩ : ∃ w1, w.alloc (.cells #[.int .u64 10, .int .i64 9, .int .u64 1000000000] 54) = w1 := ⟨_, rfl⟩
  have hs1 : w1.heap.size = w.heap.size + 1 := by rw [← hw1]; simp
  obtain ⟨g, hg⟩ : ∃ g, w.heap.size = g := ⟨_, rfl⟩
  rw [hw1] at HW hb0
  rw [hg] at HW hs1
  have y0 := HW.out.cell 0
  have y1 := HW.out.cell 1
  have y2 := HW.out.cell 2
  have yl := HW.out.lt
  simp only [List.getElem?_toArray, List.getElem?_cons_zero, List.getElem?_cons_succ] at y0 y1 y2
  clear h h10
  go_enter Tryd.func56, Tryd.ntmps56
  go_wp2_with (at_make; go_must (refine wpList_make_full _ rfl _ _ 64 rfl w.heap.size 52 i0 (.int .u64 0) 1 Tryd.underlying64 hi hz0 hz1 .i64 .i64 _ _ K rfl rfl hK2 hK2 (by rw [hz2]; omega) (by unfold maxLen; omega) (by rw [hs1, hg]; omega) ?_); intro w2 ho2 hg2)
  rw [made_zerosU, hs1] at ho2
  obtain ⟨g1, hg1⟩ : ∃ g1, g + 1 = g1 := ⟨_, rfl⟩
  rw [hg1] at ho2
  have HO : Hid (OwnU w2 w.heap.size 52 (some ⟨g1, 0, none⟩) K K (List.replicate K 0)) := ho2
  have HB : Hid (Below w.heap.size w w2) := hb0.out.grown hg2 (by rw [hs1]; omega) (fun _ h => by cases h)
  have HW2 : Hid (Blk w2 g 54 #[.int .u64 10, .int .i64 9, .int .u64 1000000000]) := HW.out.keep (hg2.block g (by rw [hs1]; omega) (by simp))
  clear ho2 hg2 y0 y1 y2 yl
  go_wp2
  go_loopw [21] (fun i wr => ∃ k : Nat, ∃ L, k ≤ n ∧ i = .int .i64 k ∧ OwnU wr w.heap.size 52 (some ⟨g1, 0, none⟩) K K L ∧ Grp 10 9 l k L ∧ Blk wr g 54 #[.int .u64 10, .int .i64 9, .int .u64 1000000000] ∧ Below w.heap.size w wr) (fun i _ => n - (intOf i).toNat)
  case atStart => exact ⟨0, _, by omega, rfl, HO.out, HG0.out, HW2.out, HB.out⟩
  case round =>
    obtain ⟨k, L, hk, rfl, ho, hgr, hw, hb⟩ := hrel
    have HB2 := Lib.hid hb
    have HG := Lib.hid hgr
    have y0 := hw.cell 0
    have y1 := hw.cell 1
    have y2 := hw.cell 2
    have yl := hw.lt
    simp only [List.getElem?_toArray, List.getElem?_cons_zero, List.getElem?_cons_succ] at y0 y1 y2
    have HW3 := Lib.hid hw
    clear hb hgr hw
    by_cases hlt : k < n
    · obtain ⟨at_, p, e1, ⟨hk2, hp⟩, hpb, hg2⟩ := grp_step (by omega) (by omega) HG.out (by rw [HL.out]; exact hlt) (H10.out _ (List.getElem_mem _))
      have hc := ho.cell hk2
      have hf := ho.frozen at_
      rw [hp] at hc
      obtain ⟨b, off, hkl, rfl, _, hx⟩ := (HX.out.below HB2.out).at_ hlt
      generalize l[k] = x at *
      have HS := Lib.hid (ho.stored at_ (p * 10 + x.toNat))
      have HG2 := Lib.hid hg2
      rw [HL.out] at e1
      obtain ⟨B, hB⟩ : ∃ B, (n - 1 - k) / 9 = B := ⟨_, rfl⟩
      rw [hB] at e1
      have hB2 : ((n : Int) - 1 - k) / 9 = B := by omega
      have hA : (K : Int) - 1 - B = at_ := by omega
      have hxb := byte_bd x
      have hpb2 : ((p * 10 + x.toNat : Nat) : Int) < 1000000000 := by omega
      have hm1 : IntKind.u64.wrap ((p : Int) * 10) = (p * 10 : Nat) := by rw [IntKind.wrap_u64]; omega
      have hatK : at_ < K := by omega
      have hatK' : (at_ : Int) < K := by omega
      have hat0 : (0 : Int) ≤ at_ := by omega
      have hk0 : (0 : Int) ≤ k := by omega
      have hk1 : (k : Int) < n := by omega
      have hg1l : g1 < wr.heap.size := (ho.base _ rfl).2
      clear ho hg2 hk2 hp hkl HG
      go_wp2
      go_region
      go_wp2
      go_roundw
      case rel =>
        refine ⟨k + 1, _, by omega, by go_num, ?_, HG2.out, ?_, ?_⟩
        · have e := HS.out
          rw [Int.natCast_add, Int.natCast_mul] at e
          exact e.drewN 1
        · exact (HW3.out.far (p := ⟨g1, at_, none⟩) (by simp; omega) _).drewN 1
        · exact below_drewN (HB2.out.setCell (p := ⟨g1, at_, none⟩) (by simp; omega) _) 1
      case measure => simp [intOf]; omega
    · have HO2 := Lib.hid ho
      have hkn : k = n := by omega
      subst hkn
      obtain ⟨f1, f2⟩ := grp_end HG.out (by rw [HL.out]; omega)
      have F1 := Lib.hid f1
      have F2 := Lib.hid f2
      clear ho f1 f2
      go_wp2
      go_ret
      rw [hg1]
      exact ⟨_, K, K, L, rfl, hKn, HO2.out, F1.out, F2.out, HB2.out⟩
end Go.Proofs.YtammegdfjgphkaaDoor
