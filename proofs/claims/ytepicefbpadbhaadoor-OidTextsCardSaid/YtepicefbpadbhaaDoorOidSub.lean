/-
  Contract of subidentifiers (of the program).
-/
import Derived.Test.YtepicefbpadbhaaDoorOidRight
import Derived.Test.YtepicefbpadbhaaDoorOidDecMath
import Derived.Laws.BitsAllLaws
import Derived.Laws.Shifts
namespace Go.Proofs.YtepicefbpadbhaaDoor
open Go.RowKit

theorem or7 {m r : Nat} (hm : m ≤ 4294967295) (hr : r < 128) : bits BinOp.or IntKind.u64 ((m : Int) * 128) (r : Int) = ((m * 128 + r : Nat) : Int) := by
  have e0 : (m : Int) * 128 = ((m * 128 : Nat) : Int) := by omega
  have e : m * 128 ||| r = m * 128 + r := by
    rw [show m * 128 = 2 ^ 7 * m from by omega, Nat.two_pow_add_eq_or_of_lt (by omega)]
  rw [e0, u64_or_nat (m * 128) r (by omega) (by omega), e]
theorem rdP_zero {x : UInt8} {r : List UInt8} {n : Nat} {all : List Nat} (hx : x.toNat = 128) : rdP (x :: r) n true all = none := by rw [rdP, if_pos (by simp [hx])]
theorem rdP_far {x : UInt8} {r : List UInt8} {n : Nat} {b : Bool} {all : List Nat} (hm : maxArc < n * 128 + x.toNat % 128) : rdP (x :: r) n b all = none := by
  rw [rdP]
  split
  · rfl
  · first | rfl | rw [if_pos hm]
theorem rdP_end {x : UInt8} {r : List UInt8} {n : Nat} {b : Bool} {all : List Nat} (h : (b && decide (x.toNat = 128)) = false) (hm : ¬ maxArc < n * 128 + x.toNat % 128) (hx : x.toNat < 128) : rdP (x :: r) n b all = rdP r 0 true (all ++ [n * 128 + x.toNat % 128]) := by
  rw [rdP, if_neg (by rw [h]; simp), if_neg hm, if_pos hx]
theorem rdP_more {x : UInt8} {r : List UInt8} {n : Nat} {b : Bool} {all : List Nat} (h : (b && decide (x.toNat = 128)) = false) (hm : ¬ maxArc < n * 128 + x.toNat % 128) (hx : ¬ x.toNat < 128) : rdP (x :: r) n b all = rdP r (n * 128 + x.toNat % 128) false all := by
  rw [rdP, if_neg (by rw [h]; simp), if_neg hm, if_neg hx]
theorem rdP_nil (n : Nat) (b : Bool) (all : List Nat) : rdP [] n b all = if (b && !all.isEmpty) = true then some all else none := by rw [rdP]

set_option maxRecDepth 100000 in
set_option maxHeartbeats 8000000 in
theorem subids_any {w : World} {a : Option Addr} {n c : Nat} {cs : List UInt8} (h : Bs w a n c cs) (hn : n ≤ 1000000) :
    Calls Tryd.prog 34 #[.slice a n c] w fun e w' => ∃ a' m c', e = .returned (.tuple #[.slice a' m c', .bool (rdP cs 0 true []).isSome]) ∧ (∀ ss, rdP cs 0 true [] = some ss → m = ss.length ∧ OwnK .u32 w' w.heap.size 45 a' ss.length c' ss) ∧ Below w.heap.size w w' := by
  obtain ⟨i0, hi, hz0, hz1, hz2⟩ := info_parts info_u32
  have hby4 := hz2
  have HX := Lib.hid h
  have HL := Lib.hid h.1
  have hn2 : (n : Int) ≤ 1000000 := by omega
  clear h
  go_enter Tryd.func34, Tryd.ntmps34
  go_wp2_with fail
  go_loopw [4, 5, 6, 11] (fun o nv cv i wr => ∃ (a' : Option Addr) (c' : Nat) (all : List Nat) (N k : Nat) (b : Bool), k ≤ n ∧ i = .int .i64 k ∧ o = .slice a' all.length c' ∧ nv = .int .u64 (N : Int) ∧ cv = .bool b ∧ all.length ≤ k ∧ N ≤ 4294967295 ∧ Hid (rdP cs 0 true [] = rdP (cs.drop k) N b all) ∧ OwnK .u32 wr w.heap.size 45 a' all.length c' all ∧ Below w.heap.size w wr) (fun _ _ _ i _ => n - (intOf i).toNat)
  case atStart => exact ⟨none, 0, [], 0, 0, true, Nat.zero_le _, rfl, rfl, rfl, rfl, Nat.le_refl _, by omega, rfl, OwnK.nil_ _ _ _ _, Below.refl _ _⟩
  case round =>
    obtain ⟨a', c', all, N, k, b, hk, rfl, rfl, rfl, rfl, hlk, hNb, HR, ho, hb⟩ := hrel
    have HO := Lib.hid ho
    have HB := Lib.hid hb
    have hsz := hb.size
    have hk0 : (0 : Int) ≤ k := by omega
    have hN0 : (0 : Int) ≤ N := by omega
    have hN1 : (N : Int) ≤ 4294967295 := by omega
    obtain ⟨M, hM⟩ : ∃ M, all.length = M := ⟨_, rfl⟩
    have HM := Lib.hid hM
    rw [hM] at HO hlk ⊢
    clear ho hb hM
    by_cases hlt : k < n
    · have hkl : k < cs.length := by have := HL.out; omega
      obtain ⟨bb, off, hkl', rfl, _, hc⟩ := (HX.out.below HB.out).at_ hlt
      have hdrop := List.drop_eq_getElem_cons hkl
      obtain ⟨x, hx⟩ : ∃ x, cs[k]'hkl = x := ⟨_, rfl⟩
      have HRk := HR.out
      rw [hdrop] at HRk
      rw [hx] at hc HRk
      have hlt2 : (k : Int) < n := by omega
      have hxb := byte_bd x
      obtain ⟨r, hr⟩ : ∃ r, x.toNat % 128 = r := ⟨_, rfl⟩
      have hr2 : (x.toNat : Int) % 128 = r := by omega
      have hr3 : r < 128 := by omega
      have hr4 : (0 : Int) ≤ r := by omega
      have hw1 : IntKind.u64.wrap ((N : Int) * 128) = (N : Int) * 128 := by rw [IntKind.wrap_u64]; omega
      have hw2 : IntKind.u64.wrap (r : Int) = r := by rw [IntKind.wrap_u64]; omega
      have hor := or7 hNb hr3
      obtain ⟨V, hV⟩ : ∃ V, N * 128 + r = V := ⟨_, rfl⟩
      rw [hV] at hor
      have hV0 : (0 : Int) ≤ V := by omega
      have hV1 : (V : Int) ≤ 549755813887 := by omega
      clear hx hkl' hdrop
      by_cases hz : b = true ∧ x.toNat = 128
      · obtain ⟨rfl, hz⟩ := hz
        have HE : Hid (rdP cs 0 true [] = none) := by rw [Hid, HRk]; exact rdP_zero hz
        have hz2 : (x.toNat : Int) = 128 := by omega
        clear HRk hV hr
        go_wp2_with fail
        go_ret2
        exact ⟨none, 0, 0, by rw [HE.out]; rfl, fun ss e => (by rw [HE.out] at e; cases e), HB.out⟩
      · have hz1 : (b && decide (x.toNat = 128)) = false := by
          cases b with
          | false => rfl
          | true => simp only [Bool.true_and, decide_eq_false_iff_not]; exact fun e => hz ⟨rfl, e⟩
        by_cases hfar : maxArc < V
        · have HE : Hid (rdP cs 0 true [] = none) := by rw [Hid, HRk]; exact rdP_far (by rw [hr, hV]; exact hfar)
          have hfar2 : (V : Int) > 4294967295 := by unfold maxArc at hfar; omega
          have fin : ∀ e : Ending, e = .returned (.tuple #[.slice none 0 0, .bool false]) → ∃ a' m c', e = .returned (.tuple #[.slice a' m c', .bool (rdP cs 0 true []).isSome]) ∧ (∀ ss, rdP cs 0 true [] = some ss → m = ss.length ∧ OwnK .u32 wr w.heap.size 45 a' ss.length c' ss) ∧ Below w.heap.size w wr := by
            rintro e rfl
            exact ⟨none, 0, 0, by rw [HE.out]; rfl, fun ss e => (by rw [HE.out] at e; cases e), HB.out⟩
          have FIN := Lib.hid fin
          clear HRk hV hr hz1 fin
          cases b with
          | false =>
            go_wp2_with fail
            go_ret2
            exact FIN.out _ rfl
          | true =>
            have hz2 : ¬ (x.toNat : Int) = 128 := fun e => hz ⟨rfl, by omega⟩
            go_wp2_with fail
            go_ret2
            exact FIN.out _ rfl
        · have hV2 : V ≤ 4294967295 := by unfold maxArc at hfar; omega
          have hV3 : ¬ (V : Int) > 4294967295 := by omega
          have hV4 : (V : Int) ≤ 4294967295 := by omega
          have hw3 : IntKind.u32.wrap (V : Int) = V := by rw [IntKind.wrap_u32]; omega
          by_cases hlow : x.toNat < 128
          · have HE : Hid (rdP cs 0 true [] = rdP (cs.drop (k + 1)) 0 true (all ++ [V])) := by
              rw [Hid, HRk, rdP_end hz1 (by rw [hr, hV]; exact hfar) hlow, hr, hV]
            have hlow2 : (x.toNat : Int) < 128 := by omega
            clear HRk hV hr hz1
            cases b with
            | false =>
              go_wp2_with (at_builtin; go_must (refine wpList_appK _ rfl _ _ 22 rfl w.heap.size 45 i0 Tryd.underlying22 hi hz0 hz1 (by rw [hz2]; omega) a' M c' all rfl (HO.out.alloc _) _ 1 1 [V] rfl (uk_lit_at rfl rfl rfl (by unfold maxLen; omega)) (by omega) (by simp; omega) ?_))
              intro a3 c3 w3 ho3 hg3
              have B3 := Lib.hid ((bal HB.out _).trans (OwnK.app_below (HO.out.alloc _) hg3 (Nat.le_refl _) (by simp; omega)))
              have O3 := Lib.hid ho3
              have EL : Hid ((all ++ [V]).length = M + 1) := by rw [Hid, List.length_append, HM.out]; rfl
              clear ho3 hg3
              go_wp2
              exact ⟨⟨a3, c3, all ++ [V], 0, k + 1, true, by omega, by go_num, by rw [EL.out], rfl, rfl, by rw [EL.out]; omega, by omega, HE.out, by rw [EL.out]; exact O3.out, B3.out⟩, by simp [intOf]; omega⟩
            | true =>
              have hz2 : ¬ (x.toNat : Int) = 128 := by omega
              go_wp2_with (at_builtin; go_must (refine wpList_appK _ rfl _ _ 22 rfl w.heap.size 45 i0 Tryd.underlying22 hi hz0 hz1 (by rw [hby4]; omega) a' M c' all rfl (HO.out.alloc _) _ 1 1 [V] rfl (uk_lit_at rfl rfl rfl (by unfold maxLen; omega)) (by omega) (by simp; omega) ?_))
              intro a3 c3 w3 ho3 hg3
              have B3 := Lib.hid ((bal HB.out _).trans (OwnK.app_below (HO.out.alloc _) hg3 (Nat.le_refl _) (by simp; omega)))
              have O3 := Lib.hid ho3
              have EL : Hid ((all ++ [V]).length = M + 1) := by rw [Hid, List.length_append, HM.out]; rfl
              clear ho3 hg3
              go_wp2
              exact ⟨⟨a3, c3, all ++ [V], 0, k + 1, true, by omega, by go_num, by rw [EL.out], rfl, rfl, by rw [EL.out]; omega, by omega, HE.out, by rw [EL.out]; exact O3.out, B3.out⟩, by simp [intOf]; omega⟩
          · have HE : Hid (rdP cs 0 true [] = rdP (cs.drop (k + 1)) V false all) := by
              rw [Hid, HRk, rdP_more hz1 (by rw [hr, hV]; exact hfar) hlow, hr, hV]
            have hlow2 : ¬ (x.toNat : Int) < 128 := by omega
            clear HRk hV hr hz1
            cases b with
            | false =>
              go_wp2_with fail
              exact ⟨⟨a', c', all, V, k + 1, false, by omega, by go_num, by rw [HM.out], rfl, rfl, by rw [HM.out]; omega, hV2, HE.out, by rw [HM.out]; exact HO.out, HB.out⟩, by simp [intOf]; omega⟩
            | true =>
              have hz2 : ¬ (x.toNat : Int) = 128 := fun e => hz ⟨rfl, by omega⟩
              go_wp2_with fail
              exact ⟨⟨a', c', all, V, k + 1, false, by omega, by go_num, by rw [HM.out], rfl, rfl, by rw [HM.out]; omega, hV2, HE.out, by rw [HM.out]; exact HO.out, HB.out⟩, by simp [intOf]; omega⟩
    · obtain rfl : k = n := by omega
      have HRk := HR.out
      rw [List.drop_eq_nil_of_le (by have := HL.out; omega), rdP_nil] at HRk
      have hlt2 : ¬ (k : Int) < k := by omega
      cases b with
      | false =>
        have HE : Hid (rdP cs 0 true [] = none) := by rw [Hid, HRk]; rfl
        clear HRk HR
        go_wp2_with fail
        go_ret2
        exact ⟨a', M, c', by rw [HE.out]; rfl, fun ss e => (by rw [HE.out] at e; cases e), HB.out⟩
      | true =>
        by_cases hM0 : M = 0
        · subst hM0
          have HE : Hid (rdP cs 0 true [] = none) := by
            rw [Hid, HRk, show all = [] from List.eq_nil_of_length_eq_zero HM.out]
            rfl
          clear HRk HR
          go_wp2_with fail
          go_ret2
          exact ⟨a', 0, c', by rw [HE.out]; rfl, fun ss e => (by rw [HE.out] at e; cases e), HB.out⟩
        · have hM1 : (0 : Int) < M := by omega
          have HE : Hid (rdP cs 0 true [] = some all) := by
            rw [Hid, HRk, if_pos]
            have : all ≠ [] := by rintro rfl; exact hM0 HM.out.symm
            simpa using this
          clear HRk HR
          go_wp2_with fail
          go_ret2
          refine ⟨a', M, c', by rw [HE.out]; have h2 : decide (0 < M) = true := decide_eq_true (by omega); rw [h2]; rfl, fun ss e => ?_, HB.out⟩
          rw [HE.out] at e
          injection e with e
          subst e
          exact ⟨HM.out.symm, by rw [HM.out]; exact HO.out⟩
end Go.Proofs.YtepicefbpadbhaaDoor
