/-
  Contracts of the reference's Fold and Kinds.
-/
import Derived.Test.YtkmpmphabohkkaaDoorChEnc
namespace Go.Proofs.YtkmpmphabohkkaaDoor
open Go.RowKit

def lowB (x : UInt8) : UInt8 := if 65 ≤ x.toNat ∧ x.toNat < 91 then x + 32 else x
theorem stepF_sp (sp : Bool) (o : List UInt8) : stepF (sp, o) 32 = (true, o) := if_pos rfl
theorem stepF_no {sp : Bool} {o : List UInt8} {x : UInt8} (h : x ≠ 32) (h2 : ¬ (sp = true ∧ o ≠ [])) : stepF (sp, o) x = (false, o ++ [lowB x]) := by
  unfold stepF lowB
  rw [if_neg h, if_neg h2]
theorem stepF_yes {sp : Bool} {o : List UInt8} {x : UInt8} (h : x ≠ 32) (h2 : sp = true ∧ o ≠ []) : stepF (sp, o) x = (false, o ++ [32, lowB x]) := by
  unfold stepF lowB
  rw [if_neg h, if_pos h2]
  dsimp only
  rw [List.append_assoc]
  rfl
theorem low_up {x : UInt8} (h : 65 ≤ x.toNat ∧ x.toNat < 91) : ((lowB x).toNat : Int) = (x.toNat : Int) + 32 := by
  unfold lowB
  rw [if_pos h, UInt8.toNat_add]
  have : (32 : UInt8).toNat = 32 := rfl
  omega
theorem low_no {x : UInt8} (h : ¬ (65 ≤ x.toNat ∧ x.toNat < 91)) : lowB x = x := if_neg h
theorem fold_take {s : List UInt8} {j : Nat} (h : j < s.length) : (s.take (j + 1)).foldl stepF (false, []) = stepF ((s.take j).foldl stepF (false, [])) s[j] := by
  rw [List.take_succ_eq_append_getElem h, foldF_snoc]

set_option maxRecDepth 100000 in
set_option maxHeartbeats 4000000 in
theorem ref_fold_any (s : List UInt8) (hz : s.length ≤ 100000) (w : World) :
    Calls Tryd.prog 21 #[.string ⟨s.toArray⟩] w fun e w' => e = .returned (.string ⟨(foldT s).toArray⟩) ∧ Below w.heap.size w w' := by
  obtain ⟨i0, hi, hz0, hz1, hz2⟩ := info_parts info_u8
  obtain ⟨n, hn⟩ : ∃ n, s.length = n := ⟨_, rfl⟩
  have HN := Lib.hid hn
  have hs : (⟨s.toArray⟩ : ByteArray).size = n := by rw [← hn]; rfl
  rw [hn] at hz
  have hn2 : (n : Int) ≤ 100000 := by omega
  have HFL : Hid (∀ j b o, (s.take j).foldl stepF (false, []) = (b, o) → o.length ≤ 100000) := fun j b o h => by
    have h2 := foldF_len (s.take j) false []
    rw [h] at h2
    have : false.toNat = 0 := rfl
    simp only [List.length_take, List.length_nil] at h2
    omega
  clear hn hz
  go_enter Tryd.func21, Tryd.ntmps21
  go_wp2_with fail
  go_loopw [3, 4, 5] (fun v sv i wr => ∃ a c b o, ∃ j : Nat, j ≤ n ∧ i = .int .i64 j ∧ sv = .bool b ∧ v = .slice a (o : List UInt8).length c ∧ Hid ((s.take j).foldl stepF (false, []) = (b, o)) ∧ Own wr w.heap.size 5 a o.length c o ∧ Below w.heap.size w wr) (fun _ _ i _ => n - (intOf i).toNat)
  case atStart => exact ⟨none, 0, false, [], 0, Nat.zero_le _, rfl, rfl, rfl, rfl, World.ownsRow_nil _ _ _ _, Below.refl _ _⟩
  case round =>
    obtain ⟨a, c, b, o, j, hj, rfl, rfl, rfl, HF, ho, hq⟩ := hrel
    have O := Lib.hid ho
    have Q := Lib.hid hq
    have hsz := hq.size
    clear ho hq
    have hj0 : (0 : Int) ≤ j := by omega
    by_cases hlt : j < n
    · have hlt2 : (j : Int) < n := by omega
      have hjL : j < s.length := by have := HN.out; omega
      have HT := Lib.hid (fold_take hjL)
      have hol := HFL.out j b o HF.out
      rw [HF.out] at HT
      obtain ⟨x, hx2⟩ : ∃ x, s[j] = x := ⟨_, rfl⟩
      rw [hx2] at HT
      have hx : (⟨s.toArray⟩ : ByteArray)[j]'(by rw [hs]; exact hlt) = x := hx2
      have hxb := byte_bd x
      obtain ⟨N, hN⟩ : ∃ N, o.length = N := ⟨_, rfl⟩
      have HNN := Lib.hid hN
      have hno : o = [] ↔ N = 0 := by rw [← hN]; exact List.length_eq_zero_iff.symm
      rw [hN] at O hol ⊢
      clear hx2 hjL hN
      by_cases h32 : x = 32
      · subst h32
        rw [stepF_sp] at HT
        have hv : ((32 : UInt8).toNat : Int) = 32 := rfl
        go_wp2_with fail
        go_roundw
        case rel => exact ⟨a, c, true, o, j + 1, by omega, by go_num, rfl, by rw [HNN.out], HT, by rw [HNN.out]; exact O.out, Q.out⟩
        case measure => simp [intOf]; omega
      · have hx32 : ¬ (x.toNat : Int) = 32 := fun h => h32 (UInt8.toNat_inj.1 (by have : (32 : UInt8).toNat = 32 := rfl; omega))
        have hx33 : ((x.toNat : Int) == 32) = false := by simp; exact hx32
        by_cases hup : 65 ≤ x.toNat ∧ x.toNat < 91
        · have hu1 : (65 : Int) ≤ x.toNat := by omega
          have hu2 : (x.toNat : Int) < 91 := by omega
          have hy := low_up hup
          have hy2 : (x.toNat : Int) + 32 = ((lowB x).toNat : Int) := hy.symm
          have hy3 : IntKind.u8.wrap ((x.toNat : Int) + 32) = ((lowB x).toNat : Int) := by rw [IntKind.wrap_u8']; omega
          have hy4 : ((x.toNat : Int) + 32) % 256 = ((lowB x).toNat : Int) := by omega
          have HY := Lib.hid hy2
          by_cases hsp : b = true ∧ o ≠ []
          · have HT2 := Lib.hid (HT.out.trans (stepF_yes h32 hsp))
            obtain rfl : b = true := hsp.1
            have hN1 : 0 < N := Nat.pos_of_ne_zero (fun h => hsp.2 (hno.2 h))
            have hN2 : (0 : Int) < N := by omega
            generalize lowB x = y at *
            have hyb := byte_bd y
            clear HT hno hsp h32 hup HY hy
            go_wp2_with (at_builtin; go_must (refine wpList_app _ rfl _ _ 25 rfl w.heap.size 5 i0 Tryd.underlying25 hi hz0 hz1 hz2 a N c _ rfl (O.out.below (bal (Below.refl _ _) (.cells #[.int .u8 32] 5))) _ 1 1 [32] rfl (bs_lit _ _ _ [32] 1 rfl rfl (by decide)) (by omega) (by simp; omega) ?_))
            intro a4 c4 w4 ho4 hg4
            have Q4 := Lib.hid ((bal Q.out (.cells #[.int .u8 32] 5)).trans (app_below (O.out.below (bal (Below.refl _ _) (.cells #[.int .u8 32] 5))) hg4 (Nat.le_refl _) (by simp; omega)))
            have O4 := Lib.hid ho4
            have hs4 := Q4.out.size
            clear ho4 hg4
            go_wp2_with (at_builtin; go_must (refine wpList_app _ rfl _ _ 25 rfl w.heap.size 5 i0 Tryd.underlying25 hi hz0 hz1 hz2 a4 (N + 1) c4 _ rfl (O4.out.below (bal (Below.refl _ _) (.cells #[.int .u8 (y.toNat : Int)] 5))) _ 1 1 [y] rfl (bs_lit _ _ _ [y] 1 rfl rfl (by decide)) (by omega) (by simp; omega) ?_))
            intro a5 c5 w5 ho5 hg5
            have Q5 := Lib.hid ((bal Q4.out (.cells #[.int .u8 (y.toNat : Int)] 5)).trans (app_below (O4.out.below (bal (Below.refl _ _) (.cells #[.int .u8 (y.toNat : Int)] 5))) hg5 (Nat.le_refl _) (by simp; omega)))
            have O5 := Lib.hid ho5
            have HL5 : Hid ((o ++ [32, y]).length = N + 1 + 1) := by rw [Hid, List.length_append, HNN.out]; rfl
            clear ho5 hg5
            go_wp2
            go_roundw
            case rel => exact ⟨a5, c5, false, o ++ [32, y], j + 1, by omega, by go_num, rfl, by rw [HL5.out], HT2, by rw [HL5.out]; exact O5.out, Q5.out⟩
            case measure => simp [intOf]; omega
          · have HT2 := Lib.hid (HT.out.trans (stepF_no h32 hsp))
            generalize lowB x = y at *
            have hyb := byte_bd y
            have hcase : b = false ∨ (b = true ∧ N = 0) := by
              cases b
              · exact .inl rfl
              · refine .inr ⟨rfl, ?_⟩
                by_cases h : o = []
                · exact hno.1 h
                · exact absurd ⟨rfl, h⟩ hsp
            have HL5 : Hid ((o ++ [y]).length = N + 1) := by rw [Hid, List.length_append, HNN.out]; rfl
            clear HT hno hsp h32 hup HY hy
            rcases hcase with rfl | ⟨rfl, rfl⟩
            all_goals
              go_wp2_with (at_builtin; go_must (refine wpList_app _ rfl _ _ 25 rfl w.heap.size 5 i0 Tryd.underlying25 hi hz0 hz1 hz2 a _ c _ rfl (O.out.below (bal (Below.refl _ _) (.cells #[.int .u8 (y.toNat : Int)] 5))) _ 1 1 [y] rfl (bs_lit _ _ _ [y] 1 rfl rfl (by decide)) (by omega) (by simp; omega) ?_))
              intro a5 c5 w5 ho5 hg5
              have Q5 := Lib.hid ((bal Q.out (.cells #[.int .u8 (y.toNat : Int)] 5)).trans (app_below (O.out.below (bal (Below.refl _ _) (.cells #[.int .u8 (y.toNat : Int)] 5))) hg5 (Nat.le_refl _) (by simp; omega)))
              have O5 := Lib.hid ho5
              clear ho5 hg5
              go_wp2
              go_roundw
              case rel => exact ⟨a5, c5, false, o ++ [y], j + 1, by omega, by go_num, rfl, by rw [HL5.out], HT2, by rw [HL5.out]; exact O5.out, Q5.out⟩
              case measure => simp [intOf]; omega
        · have hc65 : (x.toNat : Int) < 65 ∨ ((65 : Int) ≤ x.toNat ∧ ¬ (x.toNat : Int) < 91) := by omega
          rcases hc65 with hu2 | ⟨hu2, hu3⟩
          all_goals
            have hy2 : (x.toNat : Int) = ((lowB x).toNat : Int) := by rw [low_no hup]
            have HY := Lib.hid hy2
            clear hy2
            by_cases hsp : b = true ∧ o ≠ []
            · have HT2 := Lib.hid (HT.out.trans (stepF_yes h32 hsp))
              obtain rfl : b = true := hsp.1
              have hN1 : 0 < N := Nat.pos_of_ne_zero (fun h => hsp.2 (hno.2 h))
              have hN2 : (0 : Int) < N := by omega
              rw [low_no hup] at HT2
              clear HT hno hsp h32 hup HY
              go_wp2_with (at_builtin; go_must (refine wpList_app _ rfl _ _ 25 rfl w.heap.size 5 i0 Tryd.underlying25 hi hz0 hz1 hz2 a N c _ rfl (O.out.below (bal (Below.refl _ _) (.cells #[.int .u8 32] 5))) _ 1 1 [32] rfl (bs_lit _ _ _ [32] 1 rfl rfl (by decide)) (by omega) (by simp; omega) ?_))
              intro a4 c4 w4 ho4 hg4
              have Q4 := Lib.hid ((bal Q.out (.cells #[.int .u8 32] 5)).trans (app_below (O.out.below (bal (Below.refl _ _) (.cells #[.int .u8 32] 5))) hg4 (Nat.le_refl _) (by simp; omega)))
              have O4 := Lib.hid ho4
              have hs4 := Q4.out.size
              clear ho4 hg4
              go_wp2_with (at_builtin; go_must (refine wpList_app _ rfl _ _ 25 rfl w.heap.size 5 i0 Tryd.underlying25 hi hz0 hz1 hz2 a4 (N + 1) c4 _ rfl (O4.out.below (bal (Below.refl _ _) (.cells #[.int .u8 (x.toNat : Int)] 5))) _ 1 1 [x] rfl (bs_lit _ _ _ [x] 1 rfl rfl (by decide)) (by omega) (by simp; omega) ?_))
              intro a5 c5 w5 ho5 hg5
              have Q5 := Lib.hid ((bal Q4.out (.cells #[.int .u8 (x.toNat : Int)] 5)).trans (app_below (O4.out.below (bal (Below.refl _ _) (.cells #[.int .u8 (x.toNat : Int)] 5))) hg5 (Nat.le_refl _) (by simp; omega)))
              have O5 := Lib.hid ho5
              have HL5 : Hid ((o ++ [32, x]).length = N + 1 + 1) := by rw [Hid, List.length_append, HNN.out]; rfl
              clear ho5 hg5
              go_wp2
              go_roundw
              case rel => exact ⟨a5, c5, false, o ++ [32, x], j + 1, by omega, by go_num, rfl, by rw [HL5.out], HT2, by rw [HL5.out]; exact O5.out, Q5.out⟩
              case measure => simp [intOf]; omega
            · have HT2 := Lib.hid (HT.out.trans (stepF_no h32 hsp))
              rw [low_no hup] at HT2
              have hcase : b = false ∨ (b = true ∧ N = 0) := by
                cases b
                · exact .inl rfl
                · refine .inr ⟨rfl, ?_⟩
                  by_cases h : o = []
                  · exact hno.1 h
                  · exact absurd ⟨rfl, h⟩ hsp
              have HL5 : Hid ((o ++ [x]).length = N + 1) := by rw [Hid, List.length_append, HNN.out]; rfl
              clear HT hno hsp h32 hup HY
              rcases hcase with rfl | ⟨rfl, rfl⟩
              all_goals
                go_wp2_with (at_builtin; go_must (refine wpList_app _ rfl _ _ 25 rfl w.heap.size 5 i0 Tryd.underlying25 hi hz0 hz1 hz2 a _ c _ rfl (O.out.below (bal (Below.refl _ _) (.cells #[.int .u8 (x.toNat : Int)] 5))) _ 1 1 [x] rfl (bs_lit _ _ _ [x] 1 rfl rfl (by decide)) (by omega) (by simp; omega) ?_))
                intro a5 c5 w5 ho5 hg5
                have Q5 := Lib.hid ((bal Q.out (.cells #[.int .u8 (x.toNat : Int)] 5)).trans (app_below (O.out.below (bal (Below.refl _ _) (.cells #[.int .u8 (x.toNat : Int)] 5))) hg5 (Nat.le_refl _) (by simp; omega)))
                have O5 := Lib.hid ho5
                clear ho5 hg5
                go_wp2
                go_roundw
                case rel => exact ⟨a5, c5, false, o ++ [x], j + 1, by omega, by go_num, rfl, by rw [HL5.out], HT2, by rw [HL5.out]; exact O5.out, Q5.out⟩
                case measure => simp [intOf]; omega
    · obtain rfl : j = n := by omega
      have hlt2 : ¬ (j : Int) < j := by omega
      have HF2 : Hid (foldT s = o) := by
        have h := HF.out
        rw [List.take_of_length_le (by have := HN.out; omega)] at h
        unfold foldT
        rw [Hid, h]
      have hcv := O.out.bs.conv (P := Tryd.prog) (dst := 9) Tryd.underlying25 Tryd.underlying5 Tryd.underlying9
      go_wp2_with fail
      go_ret
      exact ⟨by rw [HF2.out]; rfl, Q.out⟩

def kindsL : List Nat := [12, 19, 20, 22, 26, 28, 30]
def kindsTo (j : Nat) : List Nat := (List.range j).filter fun k => decide (0 ≤ widK k)
theorem kinds_31 : kindsTo 31 = kindsL := by decide +kernel
theorem kinds_step (j : Nat) : kindsTo (j + 1) = if 0 ≤ widK j then kindsTo j ++ [j] else kindsTo j := by
  unfold kindsTo
  rw [List.range_succ, List.filter_append]
  by_cases h : 0 ≤ widK (j : Int)
  · rw [if_pos h]; simp [h]
  · rw [if_neg h]; simp [h]
theorem kinds_len (j : Nat) : (kindsTo j).length ≤ j := by
  unfold kindsTo
  have h := List.length_filter_le (fun k : Nat => decide (0 ≤ widK k)) (List.range j)
  rw [List.length_range] at h
  exact h

set_option maxRecDepth 100000 in
set_option maxHeartbeats 4000000 in
theorem ref_kinds_any (w : World) :
    Calls Tryd.prog 24 #[] w fun e w' => ∃ a c, e = .returned (.slice a 7 c) ∧ OwnK .i64 w' w.heap.size 3 a 7 c kindsL ∧ Below w.heap.size w w' := by
  obtain ⟨i0, hi, hz0, hz1, hz2⟩ := info_parts info_int7
  have HW := Lib.hid (fun (k : Int) w => width_any k w)
  go_enter Tryd.func24, Tryd.ntmps24
  go_wp2_with fail
  go_loopw [1, 2] (fun v i wr => ∃ a c, ∃ j : Nat, j ≤ 31 ∧ i = .int .i64 j ∧ v = .slice a (kindsTo j).length c ∧ OwnK .i64 wr w.heap.size 3 a (kindsTo j).length c (kindsTo j) ∧ Below w.heap.size w wr) (fun _ i _ => 31 - (intOf i).toNat)
  case atStart => exact ⟨none, 0, 0, Nat.zero_le _, rfl, rfl, OwnK.nil_ _ _ _ _, Below.refl _ _⟩
  case round =>
    obtain ⟨a, c, j, hj, rfl, rfl, ho, hq⟩ := hrel
    have O := Lib.hid ho
    have Q := Lib.hid hq
    have hsz := hq.size
    clear ho hq
    by_cases hlt : j < 31
    · have hlt2 : (j : Int) < 31 := by omega
      have HWJ := Lib.hid (fun w => HW.out (j : Int) w)
      have hst := kinds_step j
      have hl := kinds_len j
      obtain ⟨N, hN⟩ : ∃ N, (kindsTo j).length = N := ⟨_, rfl⟩
      have HN := Lib.hid hN
      rw [hN] at O hl ⊢
      by_cases hw : 0 ≤ widK (j : Int)
      · rw [if_pos hw] at hst
        have HST := Lib.hid hst
        have HL : Hid ((kindsTo (j + 1)).length = N + 1) := by rw [Hid, hst, List.length_append, hN]; rfl
        clear hst hN
        go_wp2_with fail
        with_reducible refine (HWJ.out _).mono ?_
        rintro e w' ⟨rfl, rfl⟩
        go_wp2_with (at_builtin; go_must (refine wpList_appK _ rfl _ _ 38 rfl w.heap.size 3 i0 Tryd.underlying38 hi hz0 hz1 (by rw [hz2]; omega) a N c _ rfl (O.out.alloc _) _ 1 1 [j] rfl (uk_lit_at rfl rfl rfl (by unfold maxLen; omega)) (by omega) (by simp; omega) ?_))
        intro a4 c4 w4 ho4 hg4
        have Q4 := Lib.hid ((bal Q.out _).trans (OwnK.app_below (O.out.alloc _) hg4 (Nat.le_refl _) (by simp; omega)))
        have O4 := Lib.hid ho4
        clear ho4 hg4
        go_wp2
        go_roundw
        case rel => exact ⟨a4, c4, j + 1, by omega, by go_num, by rw [HL.out], by rw [HL.out, HST.out]; exact O4.out, Q4.out⟩
        case measure => simp [intOf]; omega
      · rw [if_neg hw] at hst
        have HST := Lib.hid hst
        clear hst hN
        go_wp2_with fail
        with_reducible refine (HWJ.out _).mono ?_
        rintro e w' ⟨rfl, rfl⟩
        go_wp2_with fail
        go_roundw
        case rel => exact ⟨a, c, j + 1, by omega, by go_num, by rw [HST.out, HN.out], by rw [HST.out, HN.out]; exact O.out, Q.out⟩
        case measure => simp [intOf]; omega
    · obtain rfl : j = 31 := by omega
      rw [kinds_31] at O ⊢
      go_wp2_with fail
      go_ret
      exact ⟨a, c, rfl, O.out, Q.out⟩
end Go.Proofs.YtkmpmphabohkkaaDoor
