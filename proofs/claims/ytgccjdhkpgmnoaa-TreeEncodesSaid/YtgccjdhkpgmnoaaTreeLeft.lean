/-
  Contract of the reference's left and Few: how much of a number is left behind a tree.
-/
import Derived.Test.YtgccjdhkpgmnoaaTreeKid
import Derived.Test.YtgccjdhkpgmnoaaChecked
import Derived.WalkKit
import Derived.Outline
import Derived.Deep.DeepMust
import Derived.WalkLawsBesides
import Derived.LoopTactic
import Derived.RegionTactic
import Derived.ChangeAlike
namespace Go.Proofs.Ytgccjdhkpgmnoaa
open Go.RowKit

mutual
  def leftT : Tree → Int → Int
    | .node _ _ _ l ks, m => leftTs ks (m - 1 - l.length)
  def leftTs : List Tree → Int → Int
    | [], m => m
    | t :: ts, m => if 0 ≤ m then leftTs ts (leftT t m) else m
end
mutual
  theorem leftT_eq : ∀ (t : Tree) (m : Int), 0 ≤ m → ((sizT t : Int) ≤ m → leftT t m = m - sizT t) ∧ (m < sizT t → leftT t m < 0)
    | .node _ _ _ l ks, m, hm => by
      have h := leftTs_eq ks (m - 1 - l.length)
      unfold leftT sizT
      constructor
      · intro h1
        rw [h.1 (by omega)]
        omega
      · intro h1
        exact h.2 (by omega)
  theorem leftTs_eq : ∀ (ts : List Tree) (m : Int), ((sizTs ts : Int) ≤ m → leftTs ts m = m - sizTs ts) ∧ (m < sizTs ts → leftTs ts m < 0)
    | [], m => by simp [leftTs, sizTs]
    | t :: ts, m => by
      unfold leftTs sizTs
      by_cases h0 : 0 ≤ m
      · rw [if_pos h0]
        have h1 := leftT_eq t m h0
        have h2 := leftTs_eq ts (leftT t m)
        constructor
        · intro h
          have e := h1.1 (by omega)
          rw [h2.1 (by omega), e]
          omega
        · intro h
          rcases Int.lt_or_le m (sizT t) with hlt | hge
          · have := h1.2 hlt
            exact h2.2 (by omega)
          · have := h1.1 hge
            exact h2.2 (by omega)
      · rw [if_neg h0]
        exact ⟨fun h => by omega, fun _ => by omega⟩
end
theorem leftTs_neg {m : Int} (h : m < 0) (ts : List Tree) : leftTs ts m = m := by
  cases ts with
  | nil => rw [leftTs]
  | cons t ts => rw [leftTs, if_neg (by omega)]
theorem leftTs_drop {ts : List Tree} {j : Nat} (h : j < ts.length) {m : Int} (hm : 0 ≤ m) : leftTs (ts.drop j) m = leftTs (ts.drop (j + 1)) (leftT ts[j] m) := by
  rw [List.drop_eq_getElem_cons h, leftTs, if_pos hm]

theorem leftT_any (K : Nat) : ∀ (t : Tree) (w : World) (R : Nat → Prop) (cs : List Value) (M0 : Int), sizT t ≤ K → 0 ≤ M0 → M0 ≤ 1000000 → NdCs w R cs t →
    Calls Try.prog 30 #[.agg cs.toArray, .int .i64 M0] w fun e w' => (e = .returned (.int .i64 (leftT t M0)) ∧ -9223372036854775808 ≤ leftT t M0 ∧ leftT t M0 ≤ M0) ∧ Below w.heap.size w w' := by
  induction K with
  | zero => intro t w R cs M0 h; have := sizT_pos t; omega
  | succ K ih =>
    intro t w R cs M0 hs hM0 hM1 hN
    cases t with
    | node c n k l ks =>
      obtain ⟨a, m, d, ka, kn, kc, rfl, _, hk, hll, hkl, hmm, hkn, hkc⟩ := hN.parts
      have HK := Lib.hid hk
      have IH := Lib.hid (fun t w cs M0 hs h0 h1 (h : NdCs w R cs t) => ih t w R cs M0 hs h0 h1 h)
      have HL := Lib.hid hkl
      have HS : Hid (sizTs ks ≤ K) := by show _ ≤ _; unfold sizT at hs; omega
      unfold maxLen at hkc hmm
      have hkn2 : (kn : Int) ≤ 9223372036854775807 := by omega
      have hm2 : (m : Int) ≤ 9223372036854775807 := by omega
      have HF : Hid (leftT (.node c n k l ks) M0 = leftTs ks (M0 - 1 - m)) := by show _ = _; rw [leftT, hll]
      rw [HF.out]
      obtain ⟨Z, hZ⟩ : ∃ Z, Hid (leftTs ks (M0 - 1 - m) = Z) := ⟨_, rfl⟩
      rw [hZ.out]
      clear hN hk hkl ih hs hll
      go_enter Try.func30, Try.ntmps30
      go_wp2_with fail
      go_loopw [1, 5] (fun s i wr => ∃ j : Nat, ∃ M : Int, j ≤ kn ∧ i = .int .i64 j ∧ s = .int .i64 M ∧ leftTs (ks.drop j) M = Z ∧ -9223372036854775808 ≤ M ∧ M ≤ M0 ∧ Blk wr w.heap.size 26 #[.int .i64 c, .int .i64 n, .bool k, .slice a m d, .slice ka kn kc] ∧ Below w.heap.size w wr) (fun _ i _ => kn - (intOf i).toNat)
      case atStart => exact ⟨0, _, Nat.zero_le _, rfl, rfl, hZ.out, by omega, by omega, Blk.new _ _ _, bal (Below.refl _ _) _⟩
      case round =>
        obtain ⟨j, M, hj, rfl, rfl, hZM, hlo, hhi, hb, hbel⟩ := hrel
        have B := Lib.hid hb
        have Q := Lib.hid hbel
        have HZ := Lib.hid hZM
        obtain ⟨z0, z1, z2, z3, z4, zl⟩ := five hb
        clear hb hbel hZM
        by_cases hlt : j < kn
        · have hlt' : (j : Int) < kn := by omega
          by_cases hM : 0 ≤ M
          · obtain ⟨kb, ko, hl, rfl, hkb, c', n', k', a', m', d', ka', kn', kc', y0, y1, y2, y3, y4, hn⟩ := (HK.out.below Q.out).kid hlt
            have hT := Lib.hid (leftTs_drop hl hM)
            have hsz := sizTs_at ks j hl
            have HI := Lib.hid (IH.out _ _ _ M (by have := HS.out; omega) hM (by omega) hn)
            generalize leftT ks[j] M = S2 at *
            have hj0 : (0 : Int) ≤ j := by omega
            clear hsz hn
            go_wp2_with fail
            refine HI.out.mono ?_
            rintro e w2 ⟨⟨rfl, h1, h2⟩, q⟩
            have B2 := Lib.hid (B.out.below q B.out.lt)
            have Q2 := Lib.hid (bthen Q.out q)
            go_wp2_with fail
            go_roundw
            case rel => exact ⟨j + 1, S2, by omega, by go_num, rfl, by rw [← hT.out]; exact HZ.out, h1, by omega, B2.out, Q2.out⟩
            case measure => simp [intOf]; omega
          · go_wp2_with fail
            go_ret
            have e := HZ.out
            rw [leftTs_neg (by omega)] at e
            subst e
            exact ⟨⟨rfl, hlo, hhi⟩, Q.out⟩
        · have hje : j = kn := by omega
          subst hje
          go_wp2_with fail
          go_ret
          have e := HZ.out
          rw [List.drop_of_length_le (by have := HL.out; omega), leftTs] at e
          subst e
          exact ⟨⟨rfl, hlo, hhi⟩, Q.out⟩

theorem few_any {t : Tree} {w : World} {R : Nat → Prop} {cs : List Value} {M0 : Nat} (hM : M0 ≤ 1000000) (hN : NdCs w R cs t) :
    Calls Try.prog 15 #[.agg cs.toArray, .int .i64 M0] w fun e w' => e = .returned (.bool (decide (sizT t ≤ M0))) ∧ Below w.heap.size w w' := by
  have hL := leftT_eq t M0 (by omega)
  have H := Lib.hid (fun o => leftT_any _ t _ R cs M0 (Nat.le_refl _) (by omega) (by omega) (hN.below (bal (Below.refl _ w) o)))
  cases t with
  | node c n k l ks =>
    obtain ⟨a, m, d, ka, kn, kc, rfl, _⟩ := hN.parts
    clear hN
    generalize leftT (.node c n k l ks) (M0 : Int) = Z at *
    have hd : Hid (decide (sizT (.node c n k l ks) ≤ M0) = decide (0 ≤ Z)) := by
      show _ = _
      rw [decide_eq_decide]
      constructor
      · intro h; have := hL.1 (by omega); omega
      · intro h
        rcases Nat.lt_or_ge M0 (sizT (.node c n k l ks)) with h1 | h1
        · have := hL.2 (by omega); omega
        · exact h1
    rw [hd.out]
    clear hL hd
    go_enter Try.func15, Try.ntmps15
    go_wp2_with fail
    refine (H.out _).mono ?_
    rintro e w2 ⟨⟨rfl, h1, h2⟩, q⟩
    have Q2 := Lib.hid (bthen (bal (Below.refl _ w) _) q)
    clear q H
    by_cases h0 : 0 ≤ Z
    · go_wp2_with fail
      go_ret
      exact ⟨by simp [h0], Q2.out⟩
    · go_wp2_with fail
      go_ret
      exact ⟨by simp, Q2.out⟩
end Go.Proofs.Ytgccjdhkpgmnoaa
