/-
  Contract of the reference's Points: the code points of a string.
-/
import Derived.Test.YtkmpmphabohkkaaDoorChHas
import Derived.Test.YtkmpmphabohkkaaDoorRowApp
import Derived.Test.YtkmpmphabohkkaaDoorStr
import Derived.Deep.RegionHeld3
import Derived.BigRegion
import Derived.Laws.Strings2
namespace Go.Proofs.YtkmpmphabohkkaaDoor
open Go.RowKit

theorem info_int7 : (Tryd.prog.info? 3).map (fun i => (i.zero, i.size, i.bytes)) = some (some (.int .i64 0), 1, 8) := by kernel_rfl
theorem head_bad {b : UInt8} {t : List UInt8} (h : leadU b.toNat = none) : headU (b :: t) = none := by unfold headU; dsimp only; rw [h]
theorem head_short {b : UInt8} {t : List UInt8} {n x : Nat} (h : leadU b.toNat = some (n, x)) (h2 : t.length < n) : headU (b :: t) = none := by unfold headU; dsimp only; rw [h]; dsimp only; rw [if_pos h2]
theorem head_cont {b : UInt8} {t : List UInt8} {n x : Nat} (h : leadU b.toNat = some (n, x)) (h2 : contU x (t.take n) = none) : headU (b :: t) = none := by
  unfold headU; dsimp only; rw [h]; dsimp only
  split
  · rfl
  · rw [h2]
theorem head_diff {b : UInt8} {t : List UInt8} {n x y : Nat} (h : leadU b.toNat = some (n, x)) (h2 : contU x (t.take n) = some y) (h3 : ¬ u8O y = b :: t.take n) : headU (b :: t) = none := by
  unfold headU; dsimp only; rw [h]; dsimp only
  split
  · rfl
  · rw [h2]; dsimp only; rw [if_neg h3]
theorem pts_fail {l r : List UInt8} {M : List Nat} (hM : M.all scal = true) (hl : l = encU M ++ r) (hr : r ≠ []) (h : headU r = none) : ptsL l = [] ∧ (ptsO l).isSome = false := by
  have e : ptsO l = none := by rw [hl, ptsO_front hM, ptsO_none hr h]; rfl
  unfold ptsL
  rw [e]
  exact ⟨rfl, rfl⟩
theorem pts_done {l : List UInt8} {M : List Nat} (hM : M.all scal = true) (hl : l = encU M) : ptsL l = M ∧ (ptsO l).isSome = true := by
  have e : ptsO l = some M := by rw [hl, ptsO_enc M hM]
  unfold ptsL
  rw [e]
  exact ⟨rfl, rfl⟩
theorem all_snoc {M : List Nat} {x : Nat} (h : M.all scal = true) (hx : scal x = true) : (M ++ [x]).all scal = true := by
  rw [List.all_append, h, List.all_cons, hx]; rfl
theorem lead4 {x : Nat} (h : 240 ≤ x) (h2 : x < 248) : leadU x = some (3, x - 240) := if_pos ⟨h, h2⟩
theorem lead3 {x : Nat} (h : 224 ≤ x) (h2 : x < 240) : leadU x = some (2, x - 224) := by unfold leadU; rw [if_neg (by omega), if_pos ⟨h, h2⟩]
theorem lead2 {x : Nat} (h : 192 ≤ x) (h2 : x < 224) : leadU x = some (1, x - 192) := by unfold leadU; rw [if_neg (by omega), if_neg (by omega), if_pos ⟨h, h2⟩]
theorem lead1 {x : Nat} (h : x < 128) : leadU x = some (0, x) := by unfold leadU; rw [if_neg (by omega), if_neg (by omega), if_neg (by omega), if_neg (by omega)]
theorem lead0 {x : Nat} (h : (128 ≤ x ∧ x < 192) ∨ 248 ≤ x) : leadU x = none := by unfold leadU; rw [if_neg (by omega), if_neg (by omega), if_neg (by omega), if_pos (by omega)]
theorem below_of_drew {w w' : World} (h : Below w.drew.heap.size w.drew w') : Below w.heap.size w w' := (Below.refl _ w).drew.trans h
theorem wrap_small {z : Int} (h0 : 0 ≤ z) (h1 : z ≤ 1000000) : IntKind.i64.wrap z = z := by rw [IntKind.wrap_i64]; omega
theorem cont_step {z : Nat} {t : List UInt8} {n j : Nat} (hj : j < n) (hn : n ≤ t.length) : contU z ((t.take n).drop j) = if 128 ≤ (t[j]'(by omega)).toNat ∧ (t[j]'(by omega)).toNat < 192 then contU (z * 64 + (t[j]'(by omega)).toNat - 128) ((t.take n).drop (j + 1)) else none := by
  rw [List.drop_eq_getElem_cons (by rw [List.length_take]; omega), List.getElem_take]
  rfl

set_option maxRecDepth 100000 in
set_option maxHeartbeats 4000000 in
theorem pts_any (l : List UInt8) (hz : l.length ≤ 100000) (w : World) :
    Calls Tryd.prog 30 #[.string ⟨l.toArray⟩] w fun e w' => ∃ a c, e = .returned (.tuple #[.slice a (ptsL l).length c, .bool (ptsO l).isSome]) ∧ OwnK .i64 w' w.heap.size 3 a (ptsL l).length c (ptsL l) ∧ Below w.heap.size w w' := by
  obtain ⟨i0, hi, hz0, hz1, hz2⟩ := info_parts info_int7
  obtain ⟨m, hm⟩ : ∃ m, l.length = m := ⟨_, rfl⟩
  have HM := Lib.hid hm
  have hs : (⟨l.toArray⟩ : ByteArray).size = m := by rw [← hm]; rfl
  rw [hm] at hz
  have hm2 : (m : Int) ≤ 100000 := by omega
  have HOC := Lib.hid (fun (x : Nat) (h : x ≤ 100000000) w => octets_any x h w)
  clear hm hz
  go_enter Tryd.func30, Tryd.ntmps30
  go_wp2_with fail
  go_loopw [4, 5] (fun o i wr => ∃ a c M r, o = .slice a (M : List Nat).length c ∧ i = .int .i64 ((encU M).length : Nat) ∧ Hid (l = encU M ++ r) ∧ Hid (M.all scal = true) ∧ OwnK .i64 wr w.heap.size 3 a M.length c M ∧ Below w.heap.size w wr) (fun _ i _ => m - (intOf i).toNat)
  case atStart => exact ⟨none, 0, [], l, rfl, rfl, rfl, rfl, OwnK.nil_ _ _ _ _, Below.refl _ _⟩
  case round =>
    obtain ⟨a, c, M, r, rfl, rfl, HL, HS, ho, hq⟩ := hrel
    have O := Lib.hid ho
    have Q := Lib.hid hq
    have hsz := hq.size
    clear ho hq
    have hlen : m = (encU M).length + r.length := by rw [← HM.out, HL.out, List.length_append]
    have hMl := encU_len M HS.out
    obtain ⟨I, hI⟩ : ∃ I, (encU M).length = I := ⟨_, rfl⟩
    obtain ⟨K, hK⟩ : ∃ K, M.length = K := ⟨_, rfl⟩
    have HI := Lib.hid hI
    have HK := Lib.hid hK
    rw [hI] at hlen hMl ⊢
    rw [hK] at O hMl ⊢
    clear hI hK
    have hI0 : (0 : Int) ≤ I := by omega
    rcases r with _ | ⟨b, t⟩
    · have hIm : ¬ (I : Int) < m := by rw [List.length_nil] at hlen; omega
      have HR := Lib.hid (pts_done (l := l) HS.out (by have h := HL.out; rwa [List.append_nil] at h))
      clear hlen
      go_wp2_with fail
      go_ret2
      exact ⟨a, c, by rw [HR.out.1, HR.out.2, HK.out]; rfl, by rw [HR.out.1, HK.out]; exact O.out, Q.out⟩
    · rw [List.length_cons] at hlen
      have hIm : (I : Int) < m := by omega
      have hIm2 : I < m := by omega
      have HF := Lib.hid (fun h => pts_fail (l := l) (r := b :: t) HS.out HL.out (by simp) h)
      have HGET : Hid (∀ j (hj : I + j < l.length) (hj2 : j < (b :: t).length), l[I + j] = (b :: t)[j]) := by
        intro j hj hj2
        have hlc := HL.out
        subst hlc
        rw [List.getElem_append_right (by have := HI.out; omega)]
        congr 1
        have := HI.out
        omega
      have hx : (⟨l.toArray⟩ : ByteArray)[I]'(by rw [hs]; exact hIm2) = b := HGET.out 0 (by have := HM.out; omega) (by simp)
      have hbb := byte_bd b
      obtain ⟨T, hT⟩ : ∃ T, t.length = T := ⟨_, rfl⟩
      have HT := Lib.hid hT
      rw [hT] at hlen
      replace hlen := hlen.symm
      clear hT
      have hcase : ((240 : Int) ≤ b.toNat ∧ (b.toNat : Int) < 248) ∨ ((224 : Int) ≤ b.toNat ∧ (b.toNat : Int) < 240) ∨ ((192 : Int) ≤ b.toNat ∧ (b.toNat : Int) < 224) ∨ (b.toNat : Int) < 128 ∨ ((128 : Int) ≤ b.toNat ∧ (b.toNat : Int) < 192) ∨ (248 : Int) ≤ b.toNat := by omega
      rcases hcase with ⟨h1, h2⟩ | ⟨h1, h2⟩ | ⟨h1, h2⟩ | h1 | ⟨h1, h2⟩ | h1
      · have HLD := Lib.hid (lead4 (x := b.toNat) (by omega) (by omega))
        obtain ⟨x0, hx0⟩ : ∃ x0 : Nat, b.toNat - 240 = x0 := ⟨_, rfl⟩
        have hx1 : (b.toNat : Int) - 240 = x0 := by omega
        rw [hx0] at HLD
        have hx2 : x0 < 128 := by omega
        clear hx0
        by_cases hsh : T < 3
        · have hsh2 : (m : Int) ≤ I + 3 := by omega
          have HR := Lib.hid (HF.out (head_short HLD.out (by have := HT.out; omega)))
          go_wp2_with fail
          go_ret2
          exact ⟨none, 0, by rw [HR.out.1, HR.out.2]; rfl, by rw [HR.out.1]; exact OwnK.nil_ _ _ _ _, Q.out⟩
        · have hsh2 : ¬ (m : Int) ≤ I + 3 := by omega
          go_wp2_with fail
          go_loop [6, 8] (fun x k => ∃ j z : Nat, j ≤ 3 ∧ k = .int .i64 (j + 1 : Nat) ∧ x = .int .i64 z ∧ Hid (contU x0 (t.take 3) = contU z ((t.take 3).drop j)) ∧ z < 128 * 64 ^ j) (fun _ k => 4 - (intOf k).toNat)
          case atStart => exact ⟨0, x0, Nat.zero_le _, rfl, rfl, by rw [List.drop_zero]; rfl, by omega⟩
          case round =>
            obtain ⟨j, z, hj, rfl, rfl, HC, hzb⟩ := hrel
            have hj0 : (0 : Int) ≤ j := by omega
            have hz9 : z < 128 * 64 ^ 3 := Nat.lt_of_lt_of_le hzb (Nat.mul_le_mul_left _ (Nat.pow_le_pow_right (by omega) hj))
            have hz8 : (z : Int) ≤ 33554432 := by omega
            by_cases hlt : j < 3
            · have hlt2 : (j : Int) + 1 ≤ 3 := by omega
              have hjt : j < t.length := by have := HT.out; omega
              have hx3 : (⟨l.toArray⟩ : ByteArray)[I + (j + 1)]'(by rw [hs]; omega) = t[j] := HGET.out (j + 1) (by have := HM.out; omega) (by simp; omega)
              have HST := Lib.hid (cont_step (z := z) hlt (show 3 ≤ t.length by have := HT.out; omega))
              obtain ⟨y, hy⟩ : ∃ y, t[j] = y := ⟨_, rfl⟩
              simp only [hy] at HST hx3
              have hyb := byte_bd y
              have hix : I + (j + 1) < m := by omega
              clear hjt hy hz9
              by_cases hok : 128 ≤ y.toNat ∧ y.toNat < 192
              · have hok1 : ¬ (y.toNat : Int) < 128 := by omega
                have hok2 : ¬ (192 : Int) ≤ y.toNat := by omega
                have hzn : z * 64 + y.toNat - 128 < 128 * 64 ^ (j + 1) := by rw [Nat.pow_succ]; generalize 64 ^ j = p at *; omega
                have hzc : (z : Int) * 64 + y.toNat - 128 = ((z * 64 + y.toNat - 128 : Nat) : Int) := by omega
                rw [Hid, if_pos hok] at HST
                have HC2 := Lib.hid (HC.out.trans HST)
                clear hok HST hzb
                go_wp2_with fail
                go_round
                case rel => exact ⟨j + 1, z * 64 + y.toNat - 128, by omega, by go_num, rfl, HC2, hzn⟩
                case measure => simp [intOf]; omega
              · rw [Hid, if_neg hok] at HST
                have HR := Lib.hid (HF.out (head_cont HLD.out (HC.out.trans HST)))
                by_cases hy1 : (y.toNat : Int) < 128
                · clear hok HST hzb
                  go_wp2_with fail
                  go_ret2
                  exact ⟨none, 0, by rw [HR.out.1, HR.out.2]; rfl, by rw [HR.out.1]; exact OwnK.nil_ _ _ _ _, Q.out⟩
                · have hy2 : (192 : Int) ≤ y.toNat := by omega
                  clear hok HST hzb
                  go_wp2_with fail
                  go_ret2
                  exact ⟨none, 0, by rw [HR.out.1, HR.out.2]; rfl, by rw [HR.out.1]; exact OwnK.nil_ _ _ _ _, Q.out⟩
            · obtain rfl : j = 3 := by omega
              have hlt2 : ¬ (((3 : Nat) : Int) + 1 ≤ 3) := by omega
              have HCZ : Hid (contU x0 (t.take 3) = some z) := by
                have h := HC.out
                rw [List.drop_eq_nil_of_le (by rw [List.length_take]; omega)] at h
                exact h
              have HO2 := Lib.hid (HOC.out z (by omega) wr.drew)
              obtain ⟨E, hE⟩ : ∃ E, I + 4 = E := ⟨_, rfl⟩
              have hcut : (⟨l.toArray⟩ : ByteArray).extract I E = ⟨(b :: t.take 3).toArray⟩ := by
                rw [str_cut, HL.out, ← HI.out, List.drop_left, ← hE, ← HI.out, show (encU M).length + 4 - (encU M).length = 4 by omega]
                rfl
              have hE1 : (I : Int) + 3 + 1 = E := by omega
              have hE2 : (I : Int) + 4 = E := by omega
              have hE3 : (I : Int) ≤ E := by omega
              have hE4 : (E : Int) ≤ m := by omega
              have hE0 : (0 : Int) ≤ E := by omega
              have hw1 : IntKind.i64.wrap ((I : Int) + 3) = (I : Int) + 3 := wrap_small (by omega) (by omega)
              have hw2 : IntKind.i64.wrap ((I : Int) + 3 + 1) = (E : Int) := (wrap_small (by omega) (by omega)).trans hE1
              have hw3 : IntKind.i64.wrap (E : Int) = (E : Int) := wrap_small (by omega) (by omega)
              have hE5 : I ≤ E := by omega
              have hE6 : E ≤ m := by omega
              have HE := Lib.hid hE
              clear hE
              have hslc := fun wx => run_slice_string (P := Tryd.prog) wx 9 (⟨l.toArray⟩ : ByteArray) .i64 .i64 (I : Int) (E : Int) Tryd.underlying9 (by omega) (by omega) (by rw [hs]; omega)
              simp only [Int.toNat_natCast] at hslc
              rw [hcut] at hslc
              have hlm := HM.out
              clear hlt hzb hz9
              go_wp2_with fail
              go_region_with (first | (go_at_call 32; (with_reducible refine HO2.out.mono ?_); rintro e w3 ⟨a3, c3, rfl, ho3, q3⟩; have hcv := ho3.bs.conv (P := Tryd.prog) (dst := 9) Tryd.underlying25 Tryd.underlying5 Tryd.underlying9; have Q3 := Lib.hid (bthen Q.out.drew q3); have D3 := Lib.hid (below_of_drew q3)))
              have O3 := Lib.hid (O.out.below D3.out)
              have hs3 := Q3.out.size
              clear hcv ho3 q3 hslc hw1 hw2 hw3 hcut hlm
              by_cases he : u8O z = b :: t.take 3
              · have hne : (u8O z == (b :: t.take 3)) = true := beq_iff_eq.2 he
                have HSZ : Hid (scal z = true) := u8O_scal (by rw [he]; simp)
                have HLN : Hid (l = encU (M ++ [z]) ++ t.drop 3) := by
                  rw [Hid, encU_snoc, he, List.append_assoc, List.cons_append, List.take_append_drop]
                  exact HL.out
                have HEN : Hid ((encU (M ++ [z])).length = E) := by
                  rw [Hid, encU_snoc, he, List.length_append, HI.out, List.length_cons, List.length_take, ← HE.out]
                  have := HT.out
                  omega
                have HKN : Hid ((M ++ [z]).length = K + 1) := by rw [Hid, List.length_append, HK.out]; rfl
                have hKm : K ≤ 100000 := by omega
                have he2 := he
                clear he
                simp only [hne, Bool.not_true]
                go_wp2_with (at_builtin; go_must (refine wpList_appK _ rfl _ _ 38 rfl w.heap.size 3 i0 Tryd.underlying38 hi hz0 hz1 (by rw [hz2]; omega) a K c _ rfl (O3.out.alloc _) _ 1 1 [z] rfl (uk_lit_at rfl rfl rfl (by unfold maxLen; omega)) (by omega) (by simp; omega) ?_))
                intro a4 c4 w4 ho4 hg4
                have Q4 := Lib.hid ((bal Q3.out _).trans (OwnK.app_below (O3.out.alloc _) hg4 (Nat.le_refl _) (by simp; omega)))
                have O4 := Lib.hid ho4
                clear ho4 hg4
                go_wp2
                go_roundw
                case rel => exact ⟨a4, c4, M ++ [z], t.drop 3, by rw [HKN.out], by rw [HEN.out]; try go_num, HLN, all_snoc HS.out HSZ.out, by rw [HKN.out]; exact O4.out, Q4.out⟩
                case measure => simp [intOf]; omega
              · have hne : (u8O z == (b :: t.take 3)) = false := beq_eq_false_iff_ne.2 he
                have HR := Lib.hid (HF.out (head_diff HLD.out HCZ.out he))
                clear he
                simp only [hne, Bool.not_false]
                go_wp2_with fail
                go_ret2
                exact ⟨none, 0, by rw [HR.out.1, HR.out.2]; rfl, by rw [HR.out.1]; exact OwnK.nil_ _ _ _ _, Q3.out⟩
      · have HLD := Lib.hid (lead3 (x := b.toNat) (by omega) (by omega))
        have hn240 : ¬ (240 : Int) ≤ b.toNat := by omega
        obtain ⟨x0, hx0⟩ : ∃ x0 : Nat, b.toNat - 224 = x0 := ⟨_, rfl⟩
        have hx1 : (b.toNat : Int) - 224 = x0 := by omega
        rw [hx0] at HLD
        have hx2 : x0 < 128 := by omega
        clear hx0
        by_cases hsh : T < 2
        · have hsh2 : (m : Int) ≤ I + 2 := by omega
          have HR := Lib.hid (HF.out (head_short HLD.out (by have := HT.out; omega)))
          go_wp2_with fail
          go_ret2
          exact ⟨none, 0, by rw [HR.out.1, HR.out.2]; rfl, by rw [HR.out.1]; exact OwnK.nil_ _ _ _ _, Q.out⟩
        · have hsh2 : ¬ (m : Int) ≤ I + 2 := by omega
          go_wp2_with fail
          go_loop [6, 8] (fun x k => ∃ j z : Nat, j ≤ 2 ∧ k = .int .i64 (j + 1 : Nat) ∧ x = .int .i64 z ∧ Hid (contU x0 (t.take 2) = contU z ((t.take 2).drop j)) ∧ z < 128 * 64 ^ j) (fun _ k => 3 - (intOf k).toNat)
          case atStart => exact ⟨0, x0, Nat.zero_le _, rfl, rfl, by rw [List.drop_zero]; rfl, by omega⟩
          case round =>
            obtain ⟨j, z, hj, rfl, rfl, HC, hzb⟩ := hrel
            have hj0 : (0 : Int) ≤ j := by omega
            have hz9 : z < 128 * 64 ^ 2 := Nat.lt_of_lt_of_le hzb (Nat.mul_le_mul_left _ (Nat.pow_le_pow_right (by omega) hj))
            have hz8 : (z : Int) ≤ 33554432 := by omega
            by_cases hlt : j < 2
            · have hlt2 : (j : Int) + 1 ≤ 2 := by omega
              have hjt : j < t.length := by have := HT.out; omega
              have hx3 : (⟨l.toArray⟩ : ByteArray)[I + (j + 1)]'(by rw [hs]; omega) = t[j] := HGET.out (j + 1) (by have := HM.out; omega) (by simp; omega)
              have HST := Lib.hid (cont_step (z := z) hlt (show 2 ≤ t.length by have := HT.out; omega))
              obtain ⟨y, hy⟩ : ∃ y, t[j] = y := ⟨_, rfl⟩
              simp only [hy] at HST hx3
              have hyb := byte_bd y
              have hix : I + (j + 1) < m := by omega
              clear hjt hy hz9
              by_cases hok : 128 ≤ y.toNat ∧ y.toNat < 192
              · have hok1 : ¬ (y.toNat : Int) < 128 := by omega
                have hok2 : ¬ (192 : Int) ≤ y.toNat := by omega
                have hzn : z * 64 + y.toNat - 128 < 128 * 64 ^ (j + 1) := by rw [Nat.pow_succ]; generalize 64 ^ j = p at *; omega
                have hzc : (z : Int) * 64 + y.toNat - 128 = ((z * 64 + y.toNat - 128 : Nat) : Int) := by omega
                rw [Hid, if_pos hok] at HST
                have HC2 := Lib.hid (HC.out.trans HST)
                clear hok HST hzb
                go_wp2_with fail
                go_round
                case rel => exact ⟨j + 1, z * 64 + y.toNat - 128, by omega, by go_num, rfl, HC2, hzn⟩
                case measure => simp [intOf]; omega
              · rw [Hid, if_neg hok] at HST
                have HR := Lib.hid (HF.out (head_cont HLD.out (HC.out.trans HST)))
                by_cases hy1 : (y.toNat : Int) < 128
                · clear hok HST hzb
                  go_wp2_with fail
                  go_ret2
                  exact ⟨none, 0, by rw [HR.out.1, HR.out.2]; rfl, by rw [HR.out.1]; exact OwnK.nil_ _ _ _ _, Q.out⟩
                · have hy2 : (192 : Int) ≤ y.toNat := by omega
                  clear hok HST hzb
                  go_wp2_with fail
                  go_ret2
                  exact ⟨none, 0, by rw [HR.out.1, HR.out.2]; rfl, by rw [HR.out.1]; exact OwnK.nil_ _ _ _ _, Q.out⟩
            · obtain rfl : j = 2 := by omega
              have hlt2 : ¬ (((2 : Nat) : Int) + 1 ≤ 2) := by omega
              have HCZ : Hid (contU x0 (t.take 2) = some z) := by
                have h := HC.out
                rw [List.drop_eq_nil_of_le (by rw [List.length_take]; omega)] at h
                exact h
              have HO2 := Lib.hid (HOC.out z (by omega) wr.drew)
              obtain ⟨E, hE⟩ : ∃ E, I + 3 = E := ⟨_, rfl⟩
              have hcut : (⟨l.toArray⟩ : ByteArray).extract I E = ⟨(b :: t.take 2).toArray⟩ := by
                rw [str_cut, HL.out, ← HI.out, List.drop_left, ← hE, ← HI.out, show (encU M).length + 3 - (encU M).length = 3 by omega]
                rfl
              have hE1 : (I : Int) + 2 + 1 = E := by omega
              have hE2 : (I : Int) + 3 = E := by omega
              have hE3 : (I : Int) ≤ E := by omega
              have hE4 : (E : Int) ≤ m := by omega
              have hE0 : (0 : Int) ≤ E := by omega
              have hw1 : IntKind.i64.wrap ((I : Int) + 2) = (I : Int) + 2 := wrap_small (by omega) (by omega)
              have hw2 : IntKind.i64.wrap ((I : Int) + 2 + 1) = (E : Int) := (wrap_small (by omega) (by omega)).trans hE1
              have hw3 : IntKind.i64.wrap (E : Int) = (E : Int) := wrap_small (by omega) (by omega)
              have hE5 : I ≤ E := by omega
              have hE6 : E ≤ m := by omega
              have HE := Lib.hid hE
              clear hE
              have hslc := fun wx => run_slice_string (P := Tryd.prog) wx 9 (⟨l.toArray⟩ : ByteArray) .i64 .i64 (I : Int) (E : Int) Tryd.underlying9 (by omega) (by omega) (by rw [hs]; omega)
              simp only [Int.toNat_natCast] at hslc
              rw [hcut] at hslc
              have hlm := HM.out
              clear hlt hzb hz9
              go_wp2_with fail
              go_region_with (first | (go_at_call 32; (with_reducible refine HO2.out.mono ?_); rintro e w3 ⟨a3, c3, rfl, ho3, q3⟩; have hcv := ho3.bs.conv (P := Tryd.prog) (dst := 9) Tryd.underlying25 Tryd.underlying5 Tryd.underlying9; have Q3 := Lib.hid (bthen Q.out.drew q3); have D3 := Lib.hid (below_of_drew q3)))
              have O3 := Lib.hid (O.out.below D3.out)
              have hs3 := Q3.out.size
              clear hcv ho3 q3 hslc hw1 hw2 hw3 hcut hlm
              by_cases he : u8O z = b :: t.take 2
              · have hne : (u8O z == (b :: t.take 2)) = true := beq_iff_eq.2 he
                have HSZ : Hid (scal z = true) := u8O_scal (by rw [he]; simp)
                have HLN : Hid (l = encU (M ++ [z]) ++ t.drop 2) := by
                  rw [Hid, encU_snoc, he, List.append_assoc, List.cons_append, List.take_append_drop]
                  exact HL.out
                have HEN : Hid ((encU (M ++ [z])).length = E) := by
                  rw [Hid, encU_snoc, he, List.length_append, HI.out, List.length_cons, List.length_take, ← HE.out]
                  have := HT.out
                  omega
                have HKN : Hid ((M ++ [z]).length = K + 1) := by rw [Hid, List.length_append, HK.out]; rfl
                have hKm : K ≤ 100000 := by omega
                have he2 := he
                clear he
                simp only [hne, Bool.not_true]
                go_wp2_with (at_builtin; go_must (refine wpList_appK _ rfl _ _ 38 rfl w.heap.size 3 i0 Tryd.underlying38 hi hz0 hz1 (by rw [hz2]; omega) a K c _ rfl (O3.out.alloc _) _ 1 1 [z] rfl (uk_lit_at rfl rfl rfl (by unfold maxLen; omega)) (by omega) (by simp; omega) ?_))
                intro a4 c4 w4 ho4 hg4
                have Q4 := Lib.hid ((bal Q3.out _).trans (OwnK.app_below (O3.out.alloc _) hg4 (Nat.le_refl _) (by simp; omega)))
                have O4 := Lib.hid ho4
                clear ho4 hg4
                go_wp2
                go_roundw
                case rel => exact ⟨a4, c4, M ++ [z], t.drop 2, by rw [HKN.out], by rw [HEN.out]; try go_num, HLN, all_snoc HS.out HSZ.out, by rw [HKN.out]; exact O4.out, Q4.out⟩
                case measure => simp [intOf]; omega
              · have hne : (u8O z == (b :: t.take 2)) = false := beq_eq_false_iff_ne.2 he
                have HR := Lib.hid (HF.out (head_diff HLD.out HCZ.out he))
                clear he
                simp only [hne, Bool.not_false]
                go_wp2_with fail
                go_ret2
                exact ⟨none, 0, by rw [HR.out.1, HR.out.2]; rfl, by rw [HR.out.1]; exact OwnK.nil_ _ _ _ _, Q3.out⟩
      · have HLD := Lib.hid (lead2 (x := b.toNat) (by omega) (by omega))
        have hn240 : ¬ (240 : Int) ≤ b.toNat := by omega
        have hn224 : ¬ (224 : Int) ≤ b.toNat := by omega
        obtain ⟨x0, hx0⟩ : ∃ x0 : Nat, b.toNat - 192 = x0 := ⟨_, rfl⟩
        have hx1 : (b.toNat : Int) - 192 = x0 := by omega
        rw [hx0] at HLD
        have hx2 : x0 < 128 := by omega
        clear hx0
        by_cases hsh : T < 1
        · have hsh2 : (m : Int) ≤ I + 1 := by omega
          have HR := Lib.hid (HF.out (head_short HLD.out (by have := HT.out; omega)))
          go_wp2_with fail
          go_ret2
          exact ⟨none, 0, by rw [HR.out.1, HR.out.2]; rfl, by rw [HR.out.1]; exact OwnK.nil_ _ _ _ _, Q.out⟩
        · have hsh2 : ¬ (m : Int) ≤ I + 1 := by omega
          go_wp2_with fail
          go_loop [6, 8] (fun x k => ∃ j z : Nat, j ≤ 1 ∧ k = .int .i64 (j + 1 : Nat) ∧ x = .int .i64 z ∧ Hid (contU x0 (t.take 1) = contU z ((t.take 1).drop j)) ∧ z < 128 * 64 ^ j) (fun _ k => 2 - (intOf k).toNat)
          case atStart => exact ⟨0, x0, Nat.zero_le _, rfl, rfl, by rw [List.drop_zero]; rfl, by omega⟩
          case round =>
            obtain ⟨j, z, hj, rfl, rfl, HC, hzb⟩ := hrel
            have hj0 : (0 : Int) ≤ j := by omega
            have hz9 : z < 128 * 64 ^ 1 := Nat.lt_of_lt_of_le hzb (Nat.mul_le_mul_left _ (Nat.pow_le_pow_right (by omega) hj))
            have hz8 : (z : Int) ≤ 33554432 := by omega
            by_cases hlt : j < 1
            · have hlt2 : (j : Int) + 1 ≤ 1 := by omega
              have hjt : j < t.length := by have := HT.out; omega
              have hx3 : (⟨l.toArray⟩ : ByteArray)[I + (j + 1)]'(by rw [hs]; omega) = t[j] := HGET.out (j + 1) (by have := HM.out; omega) (by simp; omega)
              have HST := Lib.hid (cont_step (z := z) hlt (show 1 ≤ t.length by have := HT.out; omega))
              obtain ⟨y, hy⟩ : ∃ y, t[j] = y := ⟨_, rfl⟩
              simp only [hy] at HST hx3
              have hyb := byte_bd y
              have hix : I + (j + 1) < m := by omega
              clear hjt hy hz9
              by_cases hok : 128 ≤ y.toNat ∧ y.toNat < 192
              · have hok1 : ¬ (y.toNat : Int) < 128 := by omega
                have hok2 : ¬ (192 : Int) ≤ y.toNat := by omega
                have hzn : z * 64 + y.toNat - 128 < 128 * 64 ^ (j + 1) := by rw [Nat.pow_succ]; generalize 64 ^ j = p at *; omega
                have hzc : (z : Int) * 64 + y.toNat - 128 = ((z * 64 + y.toNat - 128 : Nat) : Int) := by omega
                rw [Hid, if_pos hok] at HST
                have HC2 := Lib.hid (HC.out.trans HST)
                clear hok HST hzb
                go_wp2_with fail
                go_round
                case rel => exact ⟨j + 1, z * 64 + y.toNat - 128, by omega, by go_num, rfl, HC2, hzn⟩
                case measure => simp [intOf]; omega
              · rw [Hid, if_neg hok] at HST
                have HR := Lib.hid (HF.out (head_cont HLD.out (HC.out.trans HST)))
                by_cases hy1 : (y.toNat : Int) < 128
                · clear hok HST hzb
                  go_wp2_with fail
                  go_ret2
                  exact ⟨none, 0, by rw [HR.out.1, HR.out.2]; rfl, by rw [HR.out.1]; exact OwnK.nil_ _ _ _ _, Q.out⟩
                · have hy2 : (192 : Int) ≤ y.toNat := by omega
                  clear hok HST hzb
                  go_wp2_with fail
                  go_ret2
                  exact ⟨none, 0, by rw [HR.out.1, HR.out.2]; rfl, by rw [HR.out.1]; exact OwnK.nil_ _ _ _ _, Q.out⟩
            · obtain rfl : j = 1 := by omega
              have hlt2 : ¬ (((1 : Nat) : Int) + 1 ≤ 1) := by omega
              have HCZ : Hid (contU x0 (t.take 1) = some z) := by
                have h := HC.out
                rw [List.drop_eq_nil_of_le (by rw [List.length_take]; omega)] at h
                exact h
              have HO2 := Lib.hid (HOC.out z (by omega) wr.drew)
              obtain ⟨E, hE⟩ : ∃ E, I + 2 = E := ⟨_, rfl⟩
              have hcut : (⟨l.toArray⟩ : ByteArray).extract I E = ⟨(b :: t.take 1).toArray⟩ := by
                rw [str_cut, HL.out, ← HI.out, List.drop_left, ← hE, ← HI.out, show (encU M).length + 2 - (encU M).length = 2 by omega]
                rfl
              have hE1 : (I : Int) + 1 + 1 = E := by omega
              have hE2 : (I : Int) + 2 = E := by omega
              have hE3 : (I : Int) ≤ E := by omega
              have hE4 : (E : Int) ≤ m := by omega
              have hE0 : (0 : Int) ≤ E := by omega
              have hw1 : IntKind.i64.wrap ((I : Int) + 1) = (I : Int) + 1 := wrap_small (by omega) (by omega)
              have hw2 : IntKind.i64.wrap ((I : Int) + 1 + 1) = (E : Int) := (wrap_small (by omega) (by omega)).trans hE1
              have hw3 : IntKind.i64.wrap (E : Int) = (E : Int) := wrap_small (by omega) (by omega)
              have hE5 : I ≤ E := by omega
              have hE6 : E ≤ m := by omega
              have HE := Lib.hid hE
              clear hE
              have hslc := fun wx => run_slice_string (P := Tryd.prog) wx 9 (⟨l.toArray⟩ : ByteArray) .i64 .i64 (I : Int) (E : Int) Tryd.underlying9 (by omega) (by omega) (by rw [hs]; omega)
              simp only [Int.toNat_natCast] at hslc
              rw [hcut] at hslc
              have hlm := HM.out
              clear hlt hzb hz9
              go_wp2_with fail
              go_region_with (first | (go_at_call 32; (with_reducible refine HO2.out.mono ?_); rintro e w3 ⟨a3, c3, rfl, ho3, q3⟩; have hcv := ho3.bs.conv (P := Tryd.prog) (dst := 9) Tryd.underlying25 Tryd.underlying5 Tryd.underlying9; have Q3 := Lib.hid (bthen Q.out.drew q3); have D3 := Lib.hid (below_of_drew q3)))
              have O3 := Lib.hid (O.out.below D3.out)
              have hs3 := Q3.out.size
              clear hcv ho3 q3 hslc hw1 hw2 hw3 hcut hlm
              by_cases he : u8O z = b :: t.take 1
              · have hne : (u8O z == (b :: t.take 1)) = true := beq_iff_eq.2 he
                have HSZ : Hid (scal z = true) := u8O_scal (by rw [he]; simp)
                have HLN : Hid (l = encU (M ++ [z]) ++ t.drop 1) := by
                  rw [Hid, encU_snoc, he, List.append_assoc, List.cons_append, List.take_append_drop]
                  exact HL.out
                have HEN : Hid ((encU (M ++ [z])).length = E) := by
                  rw [Hid, encU_snoc, he, List.length_append, HI.out, List.length_cons, List.length_take, ← HE.out]
                  have := HT.out
                  omega
                have HKN : Hid ((M ++ [z]).length = K + 1) := by rw [Hid, List.length_append, HK.out]; rfl
                have hKm : K ≤ 100000 := by omega
                have he2 := he
                clear he
                simp only [hne, Bool.not_true]
                go_wp2_with (at_builtin; go_must (refine wpList_appK _ rfl _ _ 38 rfl w.heap.size 3 i0 Tryd.underlying38 hi hz0 hz1 (by rw [hz2]; omega) a K c _ rfl (O3.out.alloc _) _ 1 1 [z] rfl (uk_lit_at rfl rfl rfl (by unfold maxLen; omega)) (by omega) (by simp; omega) ?_))
                intro a4 c4 w4 ho4 hg4
                have Q4 := Lib.hid ((bal Q3.out _).trans (OwnK.app_below (O3.out.alloc _) hg4 (Nat.le_refl _) (by simp; omega)))
                have O4 := Lib.hid ho4
                clear ho4 hg4
                go_wp2
                go_roundw
                case rel => exact ⟨a4, c4, M ++ [z], t.drop 1, by rw [HKN.out], by rw [HEN.out]; try go_num, HLN, all_snoc HS.out HSZ.out, by rw [HKN.out]; exact O4.out, Q4.out⟩
                case measure => simp [intOf]; omega
              · have hne : (u8O z == (b :: t.take 1)) = false := beq_eq_false_iff_ne.2 he
                have HR := Lib.hid (HF.out (head_diff HLD.out HCZ.out he))
                clear he
                simp only [hne, Bool.not_false]
                go_wp2_with fail
                go_ret2
                exact ⟨none, 0, by rw [HR.out.1, HR.out.2]; rfl, by rw [HR.out.1]; exact OwnK.nil_ _ _ _ _, Q3.out⟩
      · have HLD := Lib.hid (lead1 (x := b.toNat) (by omega))
        have hn240 : ¬ (240 : Int) ≤ b.toNat := by omega
        have hn224 : ¬ (224 : Int) ≤ b.toNat := by omega
        have hn192 : ¬ (192 : Int) ≤ b.toNat := by omega
        have hn128 : ¬ (128 : Int) ≤ b.toNat := by omega
        have hx2 : b.toNat < 128 := by omega
        by_cases hsh : False
        · exact hsh.elim
        · have hsh2 : ¬ (m : Int) ≤ I := by omega
          go_wp2_with fail
          go_loop [6, 8] (fun x k => ∃ j z : Nat, j ≤ 0 ∧ k = .int .i64 (j + 1 : Nat) ∧ x = .int .i64 z ∧ Hid (contU b.toNat (t.take 0) = contU z ((t.take 0).drop j)) ∧ z < 128 * 64 ^ j) (fun _ k => 1 - (intOf k).toNat)
          case atStart => exact ⟨0, b.toNat, Nat.zero_le _, rfl, rfl, by rw [List.drop_zero]; rfl, by omega⟩
          case round =>
            obtain ⟨j, z, hj, rfl, rfl, HC, hzb⟩ := hrel
            have hj0 : (0 : Int) ≤ j := by omega
            have hz9 : z < 128 * 64 ^ 0 := by have h0 : j = 0 := by { omega }; subst h0; exact hzb
            have hz8 : (z : Int) ≤ 33554432 := by omega
            by_cases hlt : j < 0
            · omega
            · obtain rfl : j = 0 := by omega
              have hlt2 : ¬ (((0 : Nat) : Int) + 1 ≤ 0) := by omega
              have HCZ : Hid (contU b.toNat (t.take 0) = some z) := by
                have h := HC.out
                rw [List.drop_eq_nil_of_le (by rw [List.length_take]; omega)] at h
                exact h
              have HO2 := Lib.hid (HOC.out z (by omega) wr.drew)
              obtain ⟨E, hE⟩ : ∃ E, I + 1 = E := ⟨_, rfl⟩
              have hcut : (⟨l.toArray⟩ : ByteArray).extract I E = ⟨(b :: t.take 0).toArray⟩ := by
                rw [str_cut, HL.out, ← HI.out, List.drop_left, ← hE, ← HI.out, show (encU M).length + 1 - (encU M).length = 1 by omega]
                rfl
              have hE1 : (I : Int) + 1 = E := by omega
              have hE2 : (I : Int) + 1 = E := by omega
              have hE3 : (I : Int) ≤ E := by omega
              have hE4 : (E : Int) ≤ m := by omega
              have hE0 : (0 : Int) ≤ E := by omega
              have hw1 : IntKind.i64.wrap ((I : Int)) = (I : Int) := wrap_small (by omega) (by omega)
              have hw2 : IntKind.i64.wrap ((I : Int) + 1) = (E : Int) := (wrap_small (by omega) (by omega)).trans hE1
              have hw3 : IntKind.i64.wrap (E : Int) = (E : Int) := wrap_small (by omega) (by omega)
              have hE5 : I ≤ E := by omega
              have hE6 : E ≤ m := by omega
              have HE := Lib.hid hE
              clear hE
              have hslc := fun wx => run_slice_string (P := Tryd.prog) wx 9 (⟨l.toArray⟩ : ByteArray) .i64 .i64 (I : Int) (E : Int) Tryd.underlying9 (by omega) (by omega) (by rw [hs]; omega)
              simp only [Int.toNat_natCast] at hslc
              rw [hcut] at hslc
              have hlm := HM.out
              clear hlt hzb hz9
              go_wp2_with fail
              go_region_with (first | (go_at_call 32; (with_reducible refine HO2.out.mono ?_); rintro e w3 ⟨a3, c3, rfl, ho3, q3⟩; have hcv := ho3.bs.conv (P := Tryd.prog) (dst := 9) Tryd.underlying25 Tryd.underlying5 Tryd.underlying9; have Q3 := Lib.hid (bthen Q.out.drew q3); have D3 := Lib.hid (below_of_drew q3)))
              have O3 := Lib.hid (O.out.below D3.out)
              have hs3 := Q3.out.size
              clear hcv ho3 q3 hslc hw1 hw2 hw3 hcut hlm
              by_cases he : u8O z = b :: t.take 0
              · have hne : (u8O z == [b]) = true := beq_iff_eq.2 he
                have HSZ : Hid (scal z = true) := u8O_scal (by rw [he]; simp)
                have HLN : Hid (l = encU (M ++ [z]) ++ t.drop 0) := by
                  rw [Hid, encU_snoc, he, List.append_assoc, List.cons_append, List.take_append_drop]
                  exact HL.out
                have HEN : Hid ((encU (M ++ [z])).length = E) := by
                  rw [Hid, encU_snoc, he, List.length_append, HI.out, List.length_cons, List.length_take, ← HE.out]
                  have := HT.out
                  omega
                have HKN : Hid ((M ++ [z]).length = K + 1) := by rw [Hid, List.length_append, HK.out]; rfl
                have hKm : K ≤ 100000 := by omega
                have he2 := he
                clear he
                simp only [hne, Bool.not_true]
                go_wp2_with (at_builtin; go_must (refine wpList_appK _ rfl _ _ 38 rfl w.heap.size 3 i0 Tryd.underlying38 hi hz0 hz1 (by rw [hz2]; omega) a K c _ rfl (O3.out.alloc _) _ 1 1 [z] rfl (uk_lit_at rfl rfl rfl (by unfold maxLen; omega)) (by omega) (by simp; omega) ?_))
                intro a4 c4 w4 ho4 hg4
                have Q4 := Lib.hid ((bal Q3.out _).trans (OwnK.app_below (O3.out.alloc _) hg4 (Nat.le_refl _) (by simp; omega)))
                have O4 := Lib.hid ho4
                clear ho4 hg4
                go_wp2
                go_roundw
                case rel => exact ⟨a4, c4, M ++ [z], t.drop 0, by rw [HKN.out], by rw [HEN.out]; try go_num, HLN, all_snoc HS.out HSZ.out, by rw [HKN.out]; exact O4.out, Q4.out⟩
                case measure => simp [intOf]; omega
              · have hne : (u8O z == [b]) = false := beq_eq_false_iff_ne.2 he
                have HR := Lib.hid (HF.out (head_diff HLD.out HCZ.out he))
                clear he
                simp only [hne, Bool.not_false]
                go_wp2_with fail
                go_ret2
                exact ⟨none, 0, by rw [HR.out.1, HR.out.2]; rfl, by rw [HR.out.1]; exact OwnK.nil_ _ _ _ _, Q3.out⟩
      · have HR := Lib.hid (HF.out (head_bad (lead0 (x := b.toNat) (by omega))))
        have hn240 : ¬ (240 : Int) ≤ b.toNat := by omega
        have hn224 : ¬ (224 : Int) ≤ b.toNat := by omega
        have hn192 : ¬ (192 : Int) ≤ b.toNat := by omega
        go_wp2_with fail
        go_ret2
        exact ⟨none, 0, by rw [HR.out.1, HR.out.2]; rfl, by rw [HR.out.1]; exact OwnK.nil_ _ _ _ _, Q.out⟩
      · have HR := Lib.hid (HF.out (head_bad (lead0 (x := b.toNat) (by omega))))
        have hp240 : (240 : Int) ≤ b.toNat := by omega
        have hp224 : (224 : Int) ≤ b.toNat := by omega
        have hp192 : (192 : Int) ≤ b.toNat := by omega
        have hp128 : (128 : Int) ≤ b.toNat := by omega
        have hq248 : ¬ (b.toNat : Int) < 248 := by omega
        have hq240 : ¬ (b.toNat : Int) < 240 := by omega
        have hq224 : ¬ (b.toNat : Int) < 224 := by omega
        go_wp2_with fail
        go_ret2
        exact ⟨none, 0, by rw [HR.out.1, HR.out.2]; rfl, by rw [HR.out.1]; exact OwnK.nil_ _ _ _ _, Q.out⟩
end Go.Proofs.YtkmpmphabohkkaaDoor
