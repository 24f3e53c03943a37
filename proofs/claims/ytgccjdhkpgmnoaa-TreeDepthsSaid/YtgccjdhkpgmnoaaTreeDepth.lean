/-
  Contracts of Depth, of the program and of the reference.
-/
import Derived.Test.YtgccjdhkpgmnoaaTreeKid
import Derived.Test.YtgccjdhkpgmnoaaChecked
import Derived.WalkKit
import Derived.Outline
import Derived.Deep.DeepMust
import Derived.WalkLawsBesides
import Derived.LoopTactic
import Derived.RegionTactic
import Derived.ChangeAlike
namespace Go.Proofs.Ytgccjdhkpgmnoaa
open Go.RowKit

theorem ref_depth_any (K : Nat) : ∀ (t : Tree) (w : World) (R : Nat → Prop) (cs : List Value), sizT t ≤ K → K ≤ 1000000 → NdCs w R cs t →
    Calls Try.prog 22 #[.agg cs.toArray] w fun e w' => e = .returned (.int .i64 (depT t)) ∧ Below w.heap.size w w' := by
  induction K with
  | zero => intro t w R cs h; have := sizT_pos t; omega
  | succ K ih =>
    intro t w R cs hs hK hN
    cases t with
    | node c n k l ks =>
      obtain ⟨a, m, d, ka, kn, kc, rfl, _, hk, _, hkl, _, hkn, hkc⟩ := hN.parts
      have HK := Lib.hid hk
      have IH := Lib.hid (fun t w cs hs (h : NdCs w R cs t) => ih t w R cs hs (by omega) h)
      have HL := Lib.hid hkl
      have HS : Hid (sizTs ks ≤ K) := by show _ ≤ _; unfold sizT at hs; omega
      unfold maxLen at hkc
      have hs2 : kn ≤ 1000000 := by have := len_sizTs ks; unfold sizT at hs; omega
      unfold depT
      clear hN hk hkl ih hs
      go_enter Try.func22, Try.ntmps22
      go_wp2_with fail
      go_loopw [3, 4] (fun s i wr => ∃ j S : Nat, j ≤ kn ∧ i = .int .i64 j ∧ s = .int .i64 S ∧ depTs (ks.take j) + 1 = S ∧ Blk wr w.heap.size 26 #[.int .i64 c, .int .i64 n, .bool k, .slice a m d, .slice ka kn kc] ∧ Below w.heap.size w wr) (fun _ i _ => kn - (intOf i).toNat)
      case atStart => exact ⟨0, _, Nat.zero_le _, rfl, rfl, by simp [depTs], Blk.new _ _ _, bal (Below.refl _ _) _⟩
      case round =>
        obtain ⟨j, S, hj, rfl, rfl, hS, hb, hbel⟩ := hrel
        have B := Lib.hid hb
        have Q := Lib.hid hbel
        have HSS := Lib.hid hS
        obtain ⟨z0, z1, z2, z3, z4, zl⟩ := five hb
        clear hb hbel hS
        by_cases hlt : j < kn
        · obtain ⟨kb, ko, hl, rfl, hkb, c', n', k', a', m', d', ka', kn', kc', y0, y1, y2, y3, y4, hn⟩ := (HK.out.below Q.out).kid hlt
          have hT := Lib.hid (depTs_take ks j hl)
          have hsz := sizTs_take ks j hl
          have hsl := sizTs_take_le ks (j + 1)
          have hc1 := deps_le_sizs (ks.take (j + 1))
          have HI := Lib.hid (IH.out _ _ _ (by have := HS.out; omega) hn)
          have hb1 : S ≤ 1000001 ∧ depT ks[j] ≤ 1000000 ∧ depTs (ks.take j) + depT ks[j] ≤ 2000000 := by have := HS.out; have := HSS.out; have := hT.out; have := deps_le_sizs (ks.take j); have := sizTs_take_le ks j; omega
          generalize depT ks[j] = S2 at *
          obtain ⟨hb1, hb2, hb3⟩ := hb1
          have hS1 : (S : Int) ≤ 1000001 := by omega
          have hS2 : (S2 : Int) ≤ 1000000 := by omega
          have hlt' : (j : Int) < kn := by omega
          have hj0 : (0 : Int) ≤ j := by omega
          clear hsz hsl hc1 hn hb3
          go_wp2_with fail
          refine HI.out.mono ?_
          rintro e w2 ⟨rfl, q⟩
          have B2 := Lib.hid (B.out.below q B.out.lt)
          have Q2 := Lib.hid (bthen Q.out q)
          go_wp2_with fail
          go_roundw
          case rel => exact ⟨j + 1, max S (1 + S2), by omega, by go_num, by first | go_num | (congr 1; omega), by have := hT.out; have := HSS.out; omega, B2.out, Q2.out⟩
          case measure => simp [intOf]; omega
        · have hje : j = kn := by omega
          have hSb : (S : Int) ≤ 1000001 := by have := HSS.out; have := deps_le_sizs (ks.take j); have := sizTs_take_le ks j; have := HS.out; omega
          subst hje
          go_wp2_with fail
          go_ret
          exact ⟨by rw [← HSS.out, List.take_of_length_le (by have := HL.out; omega)]; rfl, Q.out⟩

theorem depth_any (K : Nat) : ∀ (t : Tree) (w : World) (R : Nat → Prop) (cs : List Value), sizT t ≤ K → K ≤ 1000000 → NdCs w R cs t →
    Calls Try.prog 21 #[.agg cs.toArray] w fun e w' => e = .returned (.int .i64 (depT t)) ∧ Below w.heap.size w w' := by
  induction K with
  | zero => intro t w R cs h; have := sizT_pos t; omega
  | succ K ih =>
    intro t w R cs hs hK hN
    cases t with
    | node c n k l ks =>
      obtain ⟨a, m, d, ka, kn, kc, rfl, _, hk, _, hkl, _, hkn, hkc⟩ := hN.parts
      have HK := Lib.hid hk
      have IH := Lib.hid (fun t w cs hs (h : NdCs w R cs t) => ih t w R cs hs (by omega) h)
      have HL := Lib.hid hkl
      have HS : Hid (sizTs ks ≤ K) := by show _ ≤ _; unfold sizT at hs; omega
      unfold maxLen at hkc
      have hs2 : kn ≤ 1000000 := by have := len_sizTs ks; unfold sizT at hs; omega
      unfold depT
      clear hN hk hkl ih hs
      go_enter Try.func21, Try.ntmps21
      go_wp2_with fail
      go_loopw [3, 9] (fun s i wr => ∃ j S : Nat, j ≤ kn ∧ i = .int .i64 j ∧ s = .int .i64 S ∧ depTs (ks.take j) = S ∧ Blk wr w.heap.size 26 #[.int .i64 c, .int .i64 n, .bool k, .slice a m d, .slice ka kn kc] ∧ Below w.heap.size w wr) (fun _ i _ => kn - (intOf i).toNat)
      case atStart => exact ⟨0, _, Nat.zero_le _, rfl, rfl, by simp [depTs], Blk.new _ _ _, bal (Below.refl _ _) _⟩
      case round =>
        obtain ⟨j, S, hj, rfl, rfl, hS, hb, hbel⟩ := hrel
        have B := Lib.hid hb
        have Q := Lib.hid hbel
        have HSS := Lib.hid hS
        obtain ⟨z0, z1, z2, z3, z4, zl⟩ := five hb
        clear hb hbel hS
        by_cases hlt : j < kn
        · obtain ⟨kb, ko, hl, rfl, hkb, c', n', k', a', m', d', ka', kn', kc', y0, y1, y2, y3, y4, hn⟩ := (HK.out.below Q.out).kid hlt
          have hT := Lib.hid (depTs_take ks j hl)
          have hsz := sizTs_take ks j hl
          have hsl := sizTs_take_le ks (j + 1)
          have hc1 := deps_le_sizs (ks.take (j + 1))
          have HI := Lib.hid (fun o => IH.out _ _ _ (by have := HS.out; omega) (hn.below (bal (Below.refl _ wr) o)))
          have hb1 : S ≤ 1000001 ∧ depT ks[j] ≤ 1000000 ∧ depTs (ks.take j) + depT ks[j] ≤ 2000000 := by have := HS.out; have := HSS.out; have := hT.out; have := deps_le_sizs (ks.take j); have := sizTs_take_le ks j; omega
          generalize depT ks[j] = S2 at *
          obtain ⟨hb1, hb2, hb3⟩ := hb1
          have hS1 : (S : Int) ≤ 1000001 := by omega
          have hS2 : (S2 : Int) ≤ 1000000 := by omega
          have hlt' : (j : Int) < kn := by omega
          have hj0 : (0 : Int) ≤ j := by omega
          clear hsz hsl hc1 hn hb3
          go_wp2_with fail
          refine (HI.out _).mono ?_
          rintro e w2 ⟨rfl, q⟩
          have B2 := Lib.hid ((B.out.alloc _).below q (by simp; omega))
          have Q2 := Lib.hid (bthen (bal Q.out _) q)
          go_wp2_with fail
          go_roundw
          case rel => exact ⟨j + 1, max S S2, by omega, by go_num, by first | go_num | (congr 1; omega), by have := hT.out; have := HSS.out; omega, B2.out, Q2.out⟩
          case measure => simp [intOf]; omega
        · have hje : j = kn := by omega
          have hSb : (S : Int) ≤ 1000001 := by have := HSS.out; have := deps_le_sizs (ks.take j); have := sizTs_take_le ks j; have := HS.out; omega
          subst hje
          go_wp2_with fail
          go_ret
          exact ⟨by rw [← HSS.out, List.take_of_length_le (by have := HL.out; omega)]; exact ret_int (by omega), Q.out⟩

end Go.Proofs.Ytgccjdhkpgmnoaa
