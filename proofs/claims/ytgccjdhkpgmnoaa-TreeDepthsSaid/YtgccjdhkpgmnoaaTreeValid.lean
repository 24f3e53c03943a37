/-
  Contracts of Valid, of the reference and of the program (validWithin).
-/
import Derived.Test.YtgccjdhkpgmnoaaTreeShaped
namespace Go.Proofs.Ytgccjdhkpgmnoaa
open Go.RowKit

theorem ref_valid_any {t : Tree} {w : World} {R : Nat → Prop} {cs : List Value} (hs : sizT t ≤ 1000000) (hN : NdCs w R cs t) :
    Calls Try.prog 20 #[.agg cs.toArray] w fun e w' => e = .returned (.bool (okT t && decide (depT t ≤ 16))) ∧ Below w.heap.size w w' := by
  have H1 := Lib.hid (fun w' (h : Below w.heap.size w w') => shaped_any _ t w' R cs (Nat.le_refl _) (hN.below h))
  have H2 := Lib.hid (fun w' (h : Below w.heap.size w w') => ref_depth_any _ t w' R cs hs (Nat.le_refl _) (hN.below h))
  cases t with
  | node c n k l ks =>
    obtain ⟨a, m, d, ka, kn, kc, rfl, _⟩ := hN.parts
    clear hN
    generalize okT (.node c n k l ks) = O at *
    generalize depT (.node c n k l ks) = D at *
    go_enter Try.func20, Try.ntmps20
    go_wp2_with fail
    refine (H1.out _ (bal (Below.refl _ w) _)).mono ?_
    rintro e w2 ⟨rfl, q⟩
    have B2 := Lib.hid ((Blk.new w 26 #[.int .i64 c, .int .i64 n, .bool k, .slice a m d, .slice ka kn kc]).below q (by simp))
    have Q2 := Lib.hid (bthen (bal (Below.refl _ w) _) q)
    obtain ⟨z0, z1, z2, z3, z4, zl⟩ := five B2.out
    clear q H1
    cases O with
    | false =>
      go_wp2_with fail
      go_ret
      exact ⟨rfl, Q2.out⟩
    | true =>
      go_wp2_with fail
      refine (H2.out _ Q2.out).mono ?_
      rintro e w3 ⟨rfl, q⟩
      have Q3 := Lib.hid (bthen Q2.out q)
      clear q H2
      by_cases hd : D ≤ 16
      · have hd' : (D : Int) ≤ 16 := by omega
        go_wp2_with fail
        go_ret
        exact ⟨by simp [hd], Q3.out⟩
      · have hd' : (16 : Int) < D := by omega
        go_wp2_with fail
        go_ret
        exact ⟨by simp [hd]; omega, Q3.out⟩

set_option maxHeartbeats 1000000 in
theorem validWithin_any (D : Nat) : ∀ (t : Tree) (w : World) (R : Nat → Prop) (cs : List Value), D ≤ 1000000 → NdCs w R cs t →
    Calls Try.prog 33 #[.agg cs.toArray, .int .i64 D] w fun e w' => e = .returned (.bool (vwT D t)) ∧ Below w.heap.size w w' := by
  induction D with
  | zero =>
    intro t w R cs hD hN
    cases t with
    | node c n k l ks =>
      obtain ⟨a, m, d, ka, kn, kc, rfl, _⟩ := hN.parts
      clear hN
      unfold vwT
      go_enter Try.func33, Try.ntmps33
      go_wp2_with fail
      go_ret
      exact ⟨rfl, bal (Below.refl _ _) _⟩
  | succ D ih =>
    intro t w R cs hD hN
    cases t with
    | node c n k l ks =>
      obtain ⟨a, m, d, ka, kn, kc, rfl, _, hk, hll, hkl, hmm, hkn, hkc⟩ := hN.parts
      have HK := Lib.hid hk
      have IH := Lib.hid (fun t w cs (h : NdCs w R cs t) => ih t w R cs (by omega) h)
      have HL := Lib.hid hkl
      unfold maxLen at hkc hmm
      have hkn2 : (kn : Int) ≤ 9223372036854775807 := by omega
      have hm2 : (m : Int) ≤ 9223372036854775807 := by omega
      have hDz : (((D + 1 : Nat) : Int) == 0) = false := by simp; omega
      have hD1 : ((D + 1 : Nat) : Int) - 1 = (D : Int) := by omega
      have hD2 : ((D + 1 : Nat) : Int) = (D : Int) + 1 := by omega
      have hD3 : (D : Int) ≤ 1000000 := by omega
      have hDz2 : ((D : Int) + 1 == 0) = false := by simp; omega
      rw [hD2]
      clear hD2 hDz hD1
      unfold vwT
      by_cases hb : c < 0 ∨ 3 < c ∨ n < 0 ∨ 30 < n
      · have H := Lib.hid (fun w => identifier_bad hb k w)
        rw [okN_tag hb]
        clear hN hk hkl ih hll hb
        go_enter Try.func33, Try.ntmps33
        go_wp2_with fail
        refine (H.out _).mono ?_
        rintro e w2 ⟨rfl, rfl⟩
        go_wp2_with fail
        go_ret
        exact ⟨rfl, bal (Below.refl _ _) _⟩
      · obtain ⟨c', rfl⟩ : ∃ c' : Nat, c = c' := ⟨c.toNat, by omega⟩
        obtain ⟨n', rfl⟩ : ∃ n' : Nat, n = n' := ⟨n.toNat, by omega⟩
        have hc3 : c' ≤ 3 := by omega
        have hn30 : n' ≤ 30 := by omega
        have H := Lib.hid (fun w => identifier_ok hc3 hn30 k w)
        rw [okN_good hc3 hn30, empty_len hll, empty_len hkl]
        clear hN hk hkl ih hll hb
        have L0 : Hid ((ks.take 0).all (vwT D) = true) := by show _ = _; rw [List.take_zero]; rfl
        by_cases hok : (k = true → m = 0) ∧ (k = false → kn = 0)
        · have hres : Hid (((!k || decide (m = 0)) && (k || decide (kn = 0))) = true) := by
            show _ = _
            cases k with
            | true => simp [hok.1 rfl]
            | false => simp [hok.2 rfl]
          rw [hres.out, Bool.true_and]
          clear hres
          cases k with
          | true =>
            obtain rfl := hok.1 rfl
            clear hok
            go_enter Try.func33, Try.ntmps33
            go_wp2_with fail
            refine (H.out _).mono ?_
            rintro e w2 ⟨rfl, rfl⟩
            go_wp2_with fail
            go_loopw [45] (fun i wr => ∃ j : Nat, j ≤ kn ∧ i = .int .i64 j ∧ (ks.take j).all (vwT D) = true ∧ Blk wr w.heap.size 26 #[.int .i64 c', .int .i64 n', .bool true, .slice a 0 d, .slice ka kn kc] ∧ Below w.heap.size w wr) (fun i _ => kn - (intOf i).toNat)
            case atStart => exact ⟨0, Nat.zero_le _, rfl, L0.out, Blk.new _ _ _, bal (Below.refl _ _) _⟩
            case round =>
              obtain ⟨j, hj, rfl, hS, hb, hbel⟩ := hrel
              have B := Lib.hid hb
              have Q := Lib.hid hbel
              have HSS := Lib.hid hS
              obtain ⟨z0, z1, z2, z3, z4, zl⟩ := five hb
              clear hb hbel hS
              by_cases hlt : j < kn
              · obtain ⟨kb, ko, hl, rfl, hkb, c', n', k', a', m', d', ka', kn', kc', y0, y1, y2, y3, y4, hn⟩ := (HK.out.below Q.out).kid hlt
                have hT := Lib.hid (vw_take (d := D) hl)
                have hF := Lib.hid (vw_not (d := D) (ts := ks) hl)
                have HI := Lib.hid (fun o => IH.out _ _ _ (hn.below (bal (Below.refl _ wr) o)))
                generalize vwT D ks[j] = S2 at *
                have hlt' : (j : Int) < kn := by omega
                have hj0 : (0 : Int) ≤ j := by omega
                clear hn
                go_wp2_with fail
                refine (HI.out _).mono ?_
                rintro e w2 ⟨rfl, q⟩
                have B2 := Lib.hid ((B.out.alloc _).below q (by simp; omega))
                have Q2 := Lib.hid (bthen (bal Q.out _) q)
                cases S2 with
                | true =>
                  go_wp2_with fail
                  go_roundw
                  case rel => exact ⟨j + 1, by omega, by go_num, by rw [hT.out, HSS.out]; rfl, B2.out, Q2.out⟩
                  case measure => simp [intOf]; omega
                | false =>
                  go_wp2_with fail
                  go_ret
                  exact ⟨by rw [hF.out (by first | rfl | trivial)]; rfl, Q2.out⟩
              · have hje : j = kn := by omega
                subst hje
                go_wp2_with fail
                go_ret
                exact ⟨by have := HSS.out; rw [List.take_of_length_le (by have := HL.out; omega)] at this; rw [this]; rfl, Q.out⟩
          | false =>
            obtain rfl := hok.2 rfl
            clear hok
            have hks : ks = [] := List.eq_nil_of_length_eq_zero HL.out
            subst hks
            go_enter Try.func33, Try.ntmps33
            go_wp2_with fail
            refine (H.out _).mono ?_
            rintro e w2 ⟨rfl, rfl⟩
            go_wp2_with fail
            go_loopw [45] (fun i wr => i = .int .i64 0 ∧ Below w.heap.size w wr) (fun i _ => 0)
            case atStart => exact ⟨rfl, bal (Below.refl _ _) _⟩
            case round =>
              obtain ⟨rfl, hbel⟩ := hrel
              have Q := Lib.hid hbel
              clear hbel
              go_wp2_with fail
              go_ret
              exact ⟨rfl, Q.out⟩
        · have hres : Hid (((!k || decide (m = 0)) && (k || decide (kn = 0))) = false) := by
            show _ = _
            cases k with
            | true => simp; exact fun h => hok ⟨fun _ => h, fun h => by cases h⟩
            | false => simp; exact fun h => hok ⟨fun h => by (cases h), fun _ => h⟩
          rw [hres.out, Bool.false_and]
          clear hres
          cases k with
          | true =>
            have hm0 : (0 : Int) < m := by
              rcases Nat.eq_zero_or_pos m with h | h
              · exact absurd ⟨fun _ => h, fun h => by cases h⟩ hok
              · omega
            clear hok
            go_enter Try.func33, Try.ntmps33
            go_wp2_with fail
            refine (H.out _).mono ?_
            rintro e w2 ⟨rfl, rfl⟩
            go_wp2_with fail
            go_ret
            exact ⟨rfl, bal (Below.refl _ _) _⟩
          | false =>
            have hm0 : (0 : Int) < kn := by
              rcases Nat.eq_zero_or_pos kn with h | h
              · exact absurd ⟨fun h => by (cases h), fun _ => h⟩ hok
              · omega
            clear hok
            go_enter Try.func33, Try.ntmps33
            go_wp2_with fail
            refine (H.out _).mono ?_
            rintro e w2 ⟨rfl, rfl⟩
            go_wp2_with fail
            go_ret
            exact ⟨rfl, bal (Below.refl _ _) _⟩

theorem valid_any {t : Tree} {w : World} {R : Nat → Prop} {cs : List Value} (hN : NdCs w R cs t) :
    Calls Try.prog 19 #[.agg cs.toArray] w fun e w' => e = .returned (.bool (okT t && decide (depT t ≤ 16))) ∧ Below w.heap.size w w' := by
  have H1 := Lib.hid (fun w' (h : Below w.heap.size w w') => validWithin_any 16 t w' R cs (by omega) (hN.below h))
  rw [← vwT_eq]
  cases t with
  | node c n k l ks =>
    obtain ⟨a, m, d, ka, kn, kc, rfl, _⟩ := hN.parts
    clear hN
    generalize vwT 16 (.node c n k l ks) = O at *
    go_enter Try.func19, Try.ntmps19
    go_wp2_with fail
    refine (H1.out _ (bal (Below.refl _ w) _)).mono ?_
    rintro e w2 ⟨rfl, q⟩
    have Q2 := Lib.hid (bthen (bal (Below.refl _ w) _) q)
    clear q H1
    go_wp2_with fail
    go_ret
    exact ⟨rfl, Q2.out⟩
end Go.Proofs.Ytgccjdhkpgmnoaa
