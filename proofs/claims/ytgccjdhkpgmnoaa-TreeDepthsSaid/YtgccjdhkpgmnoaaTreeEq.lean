/-
  Contract of Node (cretulabase): equality of trees.
-/
import Derived.Test.YtgccjdhkpgmnoaaTreeKid
import Derived.Test.YtgccjdhkpgmnoaaBytesEq
import Derived.StillTailTactics
import Derived.Outline
import Derived.LoopTactic
import Derived.RegionTactic
import Derived.ChangeAlike
import Derived.BigQuiet
namespace Go.Proofs.Ytgccjdhkpgmnoaa
open Go.RowKit

theorem eqTs_cons {t u : Tree} {ts us : List Tree} : eqTs (t :: ts) (u :: us) = (eqT t u && eqTs ts us) := by rw [eqTs]
theorem eqTs_drop {ts us : List Tree} {j : Nat} (h : j < ts.length) (h' : j < us.length) : eqTs (ts.drop j) (us.drop j) = (eqT ts[j] us[j] && eqTs (ts.drop (j + 1)) (us.drop (j + 1))) := by
  rw [List.drop_eq_getElem_cons h, List.drop_eq_getElem_cons h', eqTs]
theorem eqTs_len : ∀ {ts us : List Tree}, ts.length ≠ us.length → eqTs ts us = false
  | [], [], h => absurd rfl h
  | t :: ts, u :: us, h => by
    rw [eqTs, eqTs_len (by simpa using h), Bool.and_false]
  | [], _ :: _, _ => by rw [eqTs]
  | _ :: _, [], _ => by rw [eqTs]
theorem eqT_parts {c n c' n' : Int} {k k' : Bool} {l l' : List UInt8} {ks ks' : List Tree} : eqT (.node c n k l ks) (.node c' n' k' l' ks') = (c == c' && n == n' && k == k' && eqB l l' && eqTs ks ks') := by
  rw [eqT, eqB_beq]

set_option maxRecDepth 100000 in
set_option maxHeartbeats 2000000 in
theorem node_any (K : Nat) : ∀ (t u : Tree) (w : World) (R R' : Nat → Prop) (cs cs' : List Value), sizT t ≤ K → NdCs w R cs t → NdCs w R' cs' u →
    Calls Try.prog 13 #[.agg cs.toArray, .agg cs'.toArray] w fun e w' => e = .returned (.bool (eqT t u)) ∧ Below w.heap.size w w' := by
  induction K with
  | zero => intro t u w R R' cs cs' h; have := sizT_pos t; omega
  | succ K ih =>
    intro t u w R R' cs cs' hs hN hN'
    cases t with
    | node c n k l ks =>
    cases u with
    | node c' n' k' l' ks' =>
      obtain ⟨a, m, d, ka, kn, kc, rfl, hl, hk, _, hkl, _, hkn, hkc⟩ := hN.parts
      obtain ⟨a', m', d', ka', kn', kc', rfl, hl', hk', _, hkl', _, hkn', hkc'⟩ := hN'.parts
      have HB := Lib.hid (fun w' (h : Below w.heap.size w w') => bytes_any (hl.1.below h) (hl'.1.below h))
      have HK := Lib.hid hk
      have HK' := Lib.hid hk'
      have IH := Lib.hid (fun t u w cs cs' hs (h : NdCs w R cs t) (h' : NdCs w R' cs' u) => ih t u w R R' cs cs' hs h h')
      have HL := Lib.hid hkl
      have HL' := Lib.hid hkl'
      have HS : Hid (sizTs ks ≤ K) := by show _ ≤ _; unfold sizT at hs; omega
      have HN := Lib.hid (eqTs_len (ts := ks) (us := ks'))
      rw [hkl, hkl'] at HN
      unfold maxLen at hkc hkc'
      have hkn2 : (kn : Int) ≤ 9223372036854775807 := by omega
      have hkn2' : (kn' : Int) ≤ 9223372036854775807 := by omega
      rw [eqT_parts]
      clear hN hN' hk hk' hkl hkl' ih hs hl hl'
      by_cases h1 : c = c'
      · subst h1
        by_cases h2 : n = n'
        · subst h2
          by_cases h3 : k = k'
          · subst h3
            have e0 : Hid ((c == c && n == n && k == k) = true) := by show _ = _; simp
            rw [e0.out, Bool.true_and]
            clear e0
            generalize eqB l l' = E at *
            cases E with
            | false =>
              go_enter Try.func13, Try.ntmps13
              go_wp2_with fail
              refine (HB.out _ (bal (bal (Below.refl _ w) _) _)).mono ?_
              rintro e w2 ⟨rfl, rfl⟩
              go_wp2_with fail
              go_ret
              exact ⟨rfl, bal (bal (Below.refl _ _) _) _⟩
            | true =>
              rw [Bool.true_and]
              by_cases h5 : kn = kn'
              · subst h5
                go_enter Try.func13, Try.ntmps13
                go_wp2_with fail
                refine (HB.out _ (bal (bal (Below.refl _ w) _) _)).mono ?_
                rintro e w2 ⟨rfl, rfl⟩
                go_wp2_with fail
                go_loopw [5] (fun i wr => ∃ j : Nat, j ≤ kn ∧ i = .int .i64 j ∧ eqTs (ks.drop j) (ks'.drop j) = eqTs ks ks' ∧ Blk wr w.heap.size 26 #[.int .i64 c, .int .i64 n, .bool k, .slice a m d, .slice ka kn kc] ∧ Blk wr (w.heap.size + 1) 26 #[.int .i64 c, .int .i64 n, .bool k, .slice a' m' d', .slice ka' kn kc'] ∧ Below w.heap.size w wr) (fun i _ => kn - (intOf i).toNat)
                case atStart => exact ⟨0, Nat.zero_le _, rfl, rfl, (Blk.new _ _ _).alloc _, by simpa using Blk.new (w.alloc (.cells #[.int .i64 c, .int .i64 n, .bool k, .slice a m d, .slice ka kn kc] 26)) 26 #[.int .i64 c, .int .i64 n, .bool k, .slice a' m' d', .slice ka' kn kc'], bal (bal (Below.refl _ _) _) _⟩
                case round =>
                  obtain ⟨j, hj, rfl, hS, hb, hb', hbel⟩ := hrel
                  have B := Lib.hid hb
                  have B' := Lib.hid hb'
                  have Q := Lib.hid hbel
                  have HSS := Lib.hid hS
                  obtain ⟨z0, z1, z2, z3, z4, zl⟩ := five hb
                  obtain ⟨x0, x1, x2, x3, x4, xl⟩ := five hb'
                  clear hb hb' hbel hS
                  by_cases hlt : j < kn
                  · obtain ⟨kb, ko, hl, rfl, hkb, c2, n2, k2, a2, m2, d2, ka2, kn2, kc2, y0, y1, y2, y3, y4, hn⟩ := (HK.out.below Q.out).kid hlt
                    obtain ⟨kb', ko', hl', rfl, hkb', c3, n3, k3, a3, m3, d3, ka3, kn3, kc3, v0, v1, v2, v3, v4, hn'⟩ := (HK'.out.below Q.out).kid hlt
                    have hT := Lib.hid (eqTs_drop hl hl')
                    have hsz := sizTs_at ks j hl
                    have HI := Lib.hid (fun w' (h : Below wr.heap.size wr w') => IH.out _ _ w' _ _ (by have := HS.out; omega) (hn.below h) (hn'.below h))
                    generalize eqT ks[j] ks'[j] = S2 at *
                    have hlt' : (j : Int) < kn := by omega
                    have hj0 : (0 : Int) ≤ j := by omega
                    clear hsz hn hn'
                    go_wp2_with fail
                    go_still_tail 10, (by kernel_rfl)
                    change wpList _ _ _ _ _ wr.drew
                    have Bd := Lib.hid (B.out.drewN 1)
                    have Bd' := Lib.hid (B'.out.drewN 1)
                    have Qd := Lib.hid (below_drewN (Below.refl wr.heap.size wr) 1)
                    obtain ⟨wd, hwd⟩ : ∃ wd, wr.drew = wd := ⟨_, rfl⟩
                    have hw1 : wr.drewN 1 = wd := hwd
                    rw [hw1] at Bd Bd' Qd
                    rw [hwd]
                    clear hw1 hwd
                    go_wp2_with fail
                    refine (HI.out _ Qd.out).mono ?_
                    rintro e w2 ⟨rfl, q⟩
                    have B2 := Lib.hid (Bd.out.below q Bd.out.lt)
                    have B2' := Lib.hid (Bd'.out.below q Bd'.out.lt)
                    have Q2 := Lib.hid (bthen (Q.out.trans (Qd.out.mono Q.out.size)) q)
                    cases S2 with
                    | true =>
                      go_wp2_with fail
                      go_roundw
                      case rel => exact ⟨j + 1, by omega, by go_num, by rw [← HSS.out, hT.out]; rfl, B2.out, B2'.out, Q2.out⟩
                      case measure => simp [intOf]; omega
                    | false =>
                      go_wp2_with fail
                      go_ret
                      exact ⟨by rw [← HSS.out, hT.out]; rfl, Q2.out⟩
                  · have hje : j = kn := by omega
                    subst hje
                    go_wp2_with fail
                    go_ret
                    exact ⟨by have := HSS.out; rw [List.drop_of_length_le (by have := HL.out; omega), List.drop_of_length_le (by have := HL'.out; omega), eqTs] at this; rw [← this]; rfl, Q.out⟩
              · have h5' : ((kn : Int) == kn') = false := by simp; omega
                have hz : Hid (eqTs ks ks' = false) := HN.out h5
                rw [hz.out]
                clear h5 HN hz
                go_enter Try.func13, Try.ntmps13
                go_wp2_with fail
                refine (HB.out _ (bal (bal (Below.refl _ w) _) _)).mono ?_
                rintro e w2 ⟨rfl, rfl⟩
                go_wp2_with fail
                go_ret
                exact ⟨rfl, bal (bal (Below.refl _ _) _) _⟩
          · have h3' : (k == k') = false := by simpa using h3
            rw [h3', Bool.and_false]
            clear h3
            go_enter Try.func13, Try.ntmps13
            go_wp2_with fail
            go_ret
            exact ⟨rfl, bal (bal (Below.refl _ _) _) _⟩
        · have h2' : (n == n') = false := by simpa using h2
          rw [h2', Bool.and_false]
          go_enter Try.func13, Try.ntmps13
          go_wp2_with fail
          go_ret
          exact ⟨rfl, bal (bal (Below.refl _ _) _) _⟩
      · have h1' : (c == c') = false := by simpa using h1
        rw [h1']
        go_enter Try.func13, Try.ntmps13
        go_wp2_with fail
        go_ret
        exact ⟨rfl, bal (bal (Below.refl _ _) _) _⟩
end Go.Proofs.Ytgccjdhkpgmnoaa
