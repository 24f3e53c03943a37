/-
  Contracts of what is valid: the reference's shaped and Valid, the program's validWithin and Valid.
-/
import Derived.Test.YtgccjdhkpgmnoaaTreeKid
import Derived.Test.YtgccjdhkpgmnoaaTreeFind
import Derived.Test.YtgccjdhkpgmnoaaTreeDepth
import Derived.Test.YtgccjdhkpgmnoaaIdent
namespace Go.Proofs.Ytgccjdhkpgmnoaa
open Go.RowKit

theorem okTs_take : ∀ (ts : List Tree) (i : Nat) (h : i < ts.length), okTs (ts.take (i + 1)) = (okTs (ts.take i) && okT ts[i])
  | [], _, h => absurd h (by simp)
  | t :: ts, 0, _ => by simp [okTs]
  | t :: ts, i + 1, h => by
    have := okTs_take ts i (by simpa using h)
    simp only [List.take_succ_cons, okTs, List.getElem_cons_succ, this, Bool.and_assoc]
theorem okTs_not {ts : List Tree} {i : Nat} (h : i < ts.length) (hf : okT ts[i] = false) : okTs ts = false := by
  rcases hq : okTs ts with _ | _
  · rfl
  · rw [okTs_at ts i h hq] at hf
    cases hf
/-- what is valid within a number of levels -/
def vwT : Nat → Tree → Bool
  | 0, _ => false
  | d + 1, .node c n k l ks => okN c n k l ks && ks.all (vwT d)
theorem okTs_all : ∀ ts : List Tree, okTs ts = ts.all okT
  | [] => by rw [okTs]; rfl
  | t :: ts => by rw [okTs, okTs_all ts]; rfl
theorem depTs_all : ∀ (ts : List Tree) (d : Nat), decide (depTs ts ≤ d) = ts.all fun t => decide (depT t ≤ d)
  | [], d => by simp [depTs]
  | t :: ts, d => by
    rw [List.all_cons, ← depTs_all ts d, depTs, ← Bool.decide_and, decide_eq_decide]
    omega
theorem all_and {p q : Tree → Bool} : ∀ ts : List Tree, (ts.all fun t => p t && q t) = (ts.all p && ts.all q)
  | [] => rfl
  | t :: ts => by
    rw [List.all_cons, List.all_cons, List.all_cons, all_and ts]
    cases p t <;> cases q t <;> simp
theorem depT_pos (t : Tree) : 1 ≤ depT t := by cases t; unfold depT; omega
theorem vwT_eq : ∀ (d : Nat) (t : Tree), vwT d t = (okT t && decide (depT t ≤ d))
  | 0, t => by
    have := depT_pos t
    rw [vwT, decide_eq_false (by omega), Bool.and_false]
  | d + 1, .node c n k l ks => by
    have h : vwT d = fun t => okT t && decide (depT t ≤ d) := funext fun t => vwT_eq d t
    have h2 := depTs_all ks d
    have h3 : decide (depT (.node c n k l ks) ≤ d + 1) = decide (depTs ks ≤ d) := by
      rw [depT, decide_eq_decide]
      omega
    rw [vwT, h, all_and, ← okTs_all, ← h2, okT, h3, Bool.and_assoc]
theorem vw_take {d : Nat} {ts : List Tree} {i : Nat} (h : i < ts.length) : (ts.take (i + 1)).all (vwT d) = ((ts.take i).all (vwT d) && vwT d ts[i]) := by
  rw [List.take_succ_eq_append_getElem h, List.all_append]
  simp
theorem vw_not {d : Nat} {ts : List Tree} {i : Nat} (h : i < ts.length) (hf : vwT d ts[i] = false) : ts.all (vwT d) = false := by
  rw [List.all_eq_false]
  exact ⟨ts[i], List.getElem_mem h, by simp [hf]⟩

theorem okN_tag {c n : Int} {k : Bool} {l : List UInt8} {ks : List Tree} (h : c < 0 ∨ 3 < c ∨ n < 0 ∨ 30 < n) : okN c n k l ks = false := by
  unfold okN
  rcases h with h | h | h | h
  · rw [decide_eq_false (show ¬ 0 ≤ c by omega)]; simp
  · rw [decide_eq_false (show ¬ c ≤ 3 by omega)]; simp
  · rw [decide_eq_false (show ¬ 0 ≤ n by omega)]; simp
  · rw [decide_eq_false (show ¬ n ≤ 30 by omega)]; simp
theorem okN_good {c n : Nat} {k : Bool} {l : List UInt8} {ks : List Tree} (hc : c ≤ 3) (hn : n ≤ 30) : okN c n k l ks = ((!k || l.isEmpty) && (k || ks.isEmpty)) := by
  unfold okN
  rw [decide_eq_true (show (0 : Int) ≤ c by omega), decide_eq_true (show (c : Int) ≤ 3 by omega), decide_eq_true (show (0 : Int) ≤ n by omega), decide_eq_true (show (n : Int) ≤ 30 by omega)]
  simp
theorem empty_len {α : Type} {l : List α} {n : Nat} (h : l.length = n) : l.isEmpty = decide (n = 0) := by
  subst h
  cases l <;> simp

set_option maxHeartbeats 1000000 in
theorem shaped_any (K : Nat) : ∀ (t : Tree) (w : World) (R : Nat → Prop) (cs : List Value), sizT t ≤ K → NdCs w R cs t →
    Calls Try.prog 34 #[.agg cs.toArray] w fun e w' => e = .returned (.bool (okT t)) ∧ Below w.heap.size w w' := by
  induction K with
  | zero => intro t w R cs h; have := sizT_pos t; omega
  | succ K ih =>
    intro t w R cs hs hN
    cases t with
    | node c n k l ks =>
      obtain ⟨a, m, d, ka, kn, kc, rfl, _, hk, hll, hkl, hmm, hkn, hkc⟩ := hN.parts
      have HK := Lib.hid hk
      have IH := Lib.hid (fun t w cs hs (h : NdCs w R cs t) => ih t w R cs hs h)
      have HL := Lib.hid hkl
      have HS : Hid (sizTs ks ≤ K) := by show _ ≤ _; unfold sizT at hs; omega
      unfold maxLen at hkc hmm
      have hkn2 : (kn : Int) ≤ 9223372036854775807 := by omega
      have hm2 : (m : Int) ≤ 9223372036854775807 := by omega
      unfold okT
      by_cases hb : c < 0 ∨ 3 < c ∨ n < 0 ∨ 30 < n
      · have H := Lib.hid (fun w => ref_identifier_bad hb k w)
        rw [okN_tag hb]
        clear hN hk hkl ih hs hll hb
        go_enter Try.func34, Try.ntmps34
        go_wp2_with fail
        refine (H.out _).mono ?_
        rintro e w2 ⟨rfl, rfl⟩
        go_wp2_with fail
        go_ret
        exact ⟨rfl, bal (Below.refl _ _) _⟩
      · obtain ⟨c', rfl⟩ : ∃ c' : Nat, c = c' := ⟨c.toNat, by omega⟩
        obtain ⟨n', rfl⟩ : ∃ n' : Nat, n = n' := ⟨n.toNat, by omega⟩
        have hc3 : c' ≤ 3 := by omega
        have hn30 : n' ≤ 30 := by omega
        have H := Lib.hid (fun w => ref_identifier_ok hc3 hn30 k w)
        rw [okN_good hc3 hn30, empty_len hll, empty_len hkl]
        clear hN hk hkl ih hs hll hb
        have L0 : Hid (okTs (ks.take 0) = true) := by show _ = _; rw [List.take_zero, okTs]
        by_cases hok : (k = true → m = 0) ∧ (k = false → kn = 0)
        · have hres : Hid (((!k || decide (m = 0)) && (k || decide (kn = 0))) = true) := by
            show _ = _
            cases k with
            | true => simp [hok.1 rfl]
            | false => simp [hok.2 rfl]
          rw [hres.out, Bool.true_and]
          clear hres
          have Loop : Hid (∀ (w1 : World), w1 = w.alloc (Obj.cells #[.int .i64 c', .int .i64 n', .bool k, .slice a m d, .slice ka kn kc] 26) → True) := fun _ _ => trivial
          clear Loop
          cases k with
          | true =>
            obtain rfl := hok.1 rfl
            clear hok
            go_enter Try.func34, Try.ntmps34
            go_wp2_with fail
            refine (H.out _).mono ?_
            rintro e w2 ⟨rfl, rfl⟩
            go_wp2_with fail
            go_loopw [5] (fun i wr => ∃ j : Nat, j ≤ kn ∧ i = .int .i64 j ∧ okTs (ks.take j) = true ∧ Blk wr w.heap.size 26 #[.int .i64 c', .int .i64 n', .bool true, .slice a 0 d, .slice ka kn kc] ∧ Below w.heap.size w wr) (fun i _ => kn - (intOf i).toNat)
            case atStart => exact ⟨0, Nat.zero_le _, rfl, L0.out, Blk.new _ _ _, bal (Below.refl _ _) _⟩
            case round =>
              obtain ⟨j, hj, rfl, hS, hb, hbel⟩ := hrel
              have B := Lib.hid hb
              have Q := Lib.hid hbel
              have HSS := Lib.hid hS
              obtain ⟨z0, z1, z2, z3, z4, zl⟩ := five hb
              clear hb hbel hS
              by_cases hlt : j < kn
              · obtain ⟨kb, ko, hl, rfl, hkb, c', n', k', a', m', d', ka', kn', kc', y0, y1, y2, y3, y4, hn⟩ := (HK.out.below Q.out).kid hlt
                have hT := Lib.hid (okTs_take ks j hl)
                have hF := Lib.hid (okTs_not (ts := ks) hl)
                have hsz := sizTs_at ks j hl
                have HI := Lib.hid (IH.out _ _ _ (by have := HS.out; omega) hn)
                generalize okT ks[j] = S2 at *
                have hlt' : (j : Int) < kn := by omega
                have hj0 : (0 : Int) ≤ j := by omega
                clear hsz hn
                go_wp2_with fail
                refine HI.out.mono ?_
                rintro e w2 ⟨rfl, q⟩
                have B2 := Lib.hid (B.out.below q B.out.lt)
                have Q2 := Lib.hid (bthen Q.out q)
                cases S2 with
                | true =>
                  go_wp2_with fail
                  go_roundw
                  case rel => exact ⟨j + 1, by omega, by go_num, by rw [hT.out, HSS.out]; rfl, B2.out, Q2.out⟩
                  case measure => simp [intOf]; omega
                | false =>
                  go_wp2_with fail
                  go_ret
                  exact ⟨by rw [hF.out (by first | rfl | trivial)]; rfl, Q2.out⟩
              · have hje : j = kn := by omega
                subst hje
                go_wp2_with fail
                go_ret
                exact ⟨by have := HSS.out; rw [List.take_of_length_le (by have := HL.out; omega)] at this; rw [this]; rfl, Q.out⟩
          | false =>
            obtain rfl := hok.2 rfl
            clear hok
            have hks : ks = [] := List.eq_nil_of_length_eq_zero HL.out
            subst hks
            go_enter Try.func34, Try.ntmps34
            go_wp2_with fail
            refine (H.out _).mono ?_
            rintro e w2 ⟨rfl, rfl⟩
            go_wp2_with fail
            go_loopw [5] (fun i wr => i = .int .i64 0 ∧ Blk wr w.heap.size 26 #[.int .i64 c', .int .i64 n', .bool false, .slice a m d, .slice ka 0 kc] ∧ Below w.heap.size w wr) (fun i _ => 0)
            case atStart => exact ⟨rfl, Blk.new _ _ _, bal (Below.refl _ _) _⟩
            case round =>
              obtain ⟨rfl, hb, hbel⟩ := hrel
              have Q := Lib.hid hbel
              obtain ⟨z0, z1, z2, z3, z4, zl⟩ := five hb
              clear hb hbel
              go_wp2_with fail
              go_ret
              exact ⟨by rw [okTs]; rfl, Q.out⟩
        · have hres : Hid (((!k || decide (m = 0)) && (k || decide (kn = 0))) = false) := by
            show _ = _
            cases k with
            | true => simp; exact fun h => hok ⟨fun _ => h, fun h => by cases h⟩
            | false => simp; exact fun h => hok ⟨fun h => by (cases h), fun _ => h⟩
          rw [hres.out, Bool.false_and]
          clear hres
          cases k with
          | true =>
            have hm0 : (0 : Int) < m := by
              rcases Nat.eq_zero_or_pos m with h | h
              · exact absurd ⟨fun _ => h, fun h => by cases h⟩ hok
              · omega
            clear hok
            go_enter Try.func34, Try.ntmps34
            go_wp2_with fail
            refine (H.out _).mono ?_
            rintro e w2 ⟨rfl, rfl⟩
            go_wp2_with fail
            go_ret
            exact ⟨rfl, bal (Below.refl _ _) _⟩
          | false =>
            have hm0 : (0 : Int) < kn := by
              rcases Nat.eq_zero_or_pos kn with h | h
              · exact absurd ⟨fun h => by (cases h), fun _ => h⟩ hok
              · omega
            clear hok
            go_enter Try.func34, Try.ntmps34
            go_wp2_with fail
            refine (H.out _).mono ?_
            rintro e w2 ⟨rfl, rfl⟩
            go_wp2_with fail
            go_ret
            exact ⟨rfl, bal (Below.refl _ _) _⟩
end Go.Proofs.Ytgccjdhkpgmnoaa
