/-
  The walk of the law TreePrefix.
-/
import Derived.Test.YtgccjdhkpgmnoaaAwakeTree
import Derived.Test.YtgccjdhkpgmnoaaTreeLeft
import Derived.Deep.RegionHeld3
namespace Go.Proofs.Ytgccjdhkpgmnoaa.treePrefix
open Go.RowKit

/-- whether a tree is valid as a whole -/
def okV (t : Tree) : Bool := okT t && decide (depT t ≤ 16)
theorem okV_ok {t : Tree} (h : okV t = true) : okT t = true := by
  unfold okV at h
  rw [Bool.and_eq_true] at h
  exact h.1
theorem encode_some {t : Tree} {w : World} {R : Nat → Prop} {cs : List Value} (hs : sizT t ≤ 100000) (hN : NdCs w R cs t) :
    Calls Try.prog 16 #[.agg cs.toArray] w fun e w' => (∃ (a' : Option Addr) (m c' : Nat) (z : Int), e = .returned (.tuple #[.slice a' m c', .int .i64 z]) ∧ (okV t = true → z = 0 ∧ m = (encT t).length ∧ Bs w' a' m c' (encT t)) ∧ (okV t = false → z = 8)) ∧ Below w.heap.size w w' := by
  by_cases h : okV t = true
  · exact (encode_tree_good hs h hN).mono fun e w' ⟨a', c', h1, h2, h3⟩ => ⟨⟨a', _, c', 0, h1, fun _ => ⟨rfl, rfl, h2.bs⟩, fun h' => by rw [h] at h'; cases h'⟩, h3⟩
  · exact (encode_tree_bad (by simpa [okV] using h) hN).mono fun e w' ⟨h1, h3⟩ => ⟨⟨none, 0, 0, 8, h1, fun h' => absurd h' h, fun _ => rfl⟩, h3⟩

set_option maxRecDepth 100000 in
set_option maxHeartbeats 4000000 in
theorem walk {w : World} {cs0 cs1 : List Value} {t0 t1 : Tree} (b0 : NdCs w (fun _ => True) cs0 t0) (b1 : NdCs w (fun _ => True) cs1 t1) :
    Calls Try.prog 8 #[.agg cs0.toArray, .agg cs1.toArray] w fun e w' => e = .returned (.bool true) ∧ Below w.heap.size w w' := by
  have HA := Lib.hid (awakeTree_any)
  have HF0 := Lib.hid (fun W (h : Below w.heap.size w W) => few_any (w := W) (M0 := 1500) (by omega) (b0.below h))
  have HF1 := Lib.hid (fun W (h : Below w.heap.size w W) => few_any (w := W) (M0 := 1500) (by omega) (b1.below h))
  have ND0 := Lib.hid b0
  have ND1 := Lib.hid b1
  cases t0 with
  | node c n k l ks =>
  cases t1 with
  | node c' n' k' l' ks' =>
  obtain ⟨a, m, d, ka, kn, kc, rfl, _⟩ := b0.parts
  obtain ⟨a', m', d', ka', kn', kc', rfl, _⟩ := b1.parts
  clear b0 b1
  have Q0 := Lib.hid (bal (bal (Below.refl _ w) (.cells #[.int .i64 c, .int .i64 n, .bool k, .slice a m d, .slice ka kn kc] 26)) (.cells #[.int .i64 c', .int .i64 n', .bool k', .slice a' m' d', .slice ka' kn' kc'] 26))
  have A0 := Lib.hid ((Blk.new w 26 #[.int .i64 c, .int .i64 n, .bool k, .slice a m d, .slice ka kn kc]).alloc (.cells #[.int .i64 c', .int .i64 n', .bool k', .slice a' m' d', .slice ka' kn' kc'] 26))
  have B0 : Hid (Blk ((w.alloc (.cells #[.int .i64 c, .int .i64 n, .bool k, .slice a m d, .slice ka kn kc] 26)).alloc (.cells #[.int .i64 c', .int .i64 n', .bool k', .slice a' m' d', .slice ka' kn' kc'] 26)) (w.heap.size + 1) 26 #[.int .i64 c', .int .i64 n', .bool k', .slice a' m' d', .slice ka' kn' kc']) := by
    have := Blk.new (w.alloc (.cells #[.int .i64 c, .int .i64 n, .bool k, .slice a m d, .slice ka kn kc] 26)) 26 #[.int .i64 c', .int .i64 n', .bool k', .slice a' m' d', .slice ka' kn' kc']
    show Blk _ _ _ _
    simpa using this
  generalize hT0 : Tree.node c n k l ks = t0 at *
  generalize hT1 : Tree.node c' n' k' l' ks' = t1 at *
  clear hT0 hT1
  go_enter Try.func8, Try.ntmps8
  go_wp2_with fail
  refine (HA.out _).mono ?_
  rintro e w1 ⟨rfl, q⟩
  have Q1 := Lib.hid (bthen Q0.out q)
  have A1 := Lib.hid (A0.out.below q A0.out.lt)
  have B1 := Lib.hid (B0.out.below q B0.out.lt)
  obtain ⟨u0, u1, u2, u3, u4, ul⟩ := five A1.out
  clear q Q0 A0 B0
  go_wp2_with fail
  refine (HF0.out _ Q1.out).mono ?_
  rintro e w2 ⟨rfl, q⟩
  have Q2 := Lib.hid (bthen Q1.out q)
  have A2 := Lib.hid (A1.out.below q A1.out.lt)
  have B2 := Lib.hid (B1.out.below q B1.out.lt)
  clear q Q1 A1 B1 HF0 u0 u1 u2 u3 u4 ul
  by_cases h0 : sizT t0 ≤ 1500
  · have hd0 : decide (sizT t0 ≤ 1500) = true := by simpa using h0
    rw [hd0]
    clear hd0
    obtain ⟨v0, v1, v2, v3, v4, vl⟩ := five B2.out
    go_wp2_with fail
    refine (HF1.out _ Q2.out).mono ?_
    rintro e w3 ⟨rfl, q⟩
    have Q3 := Lib.hid (bthen Q2.out q)
    have A3 := Lib.hid (A2.out.below q A2.out.lt)
    have B3 := Lib.hid (B2.out.below q B2.out.lt)
    clear q Q2 A2 B2 HF1 v0 v1 v2 v3 v4 vl
    by_cases h1 : sizT t1 ≤ 1500
    · have hd1 : decide (sizT t1 ≤ 1500) = true := by simpa using h1
      rw [hd1]
      clear hd1 HA
      have HE0 := Lib.hid (encode_some (by omega) (ND0.out.below Q3.out))
      obtain ⟨u0, u1, u2, u3, u4, ul⟩ := five A3.out
      go_wp2_with fail
      refine HE0.out.mono ?_
      rintro e w4 ⟨⟨a4, m4, d4, z4, rfl, hg4, hf4⟩, q⟩
      have Q4 := Lib.hid (bthen Q3.out q)
      have A4 := Lib.hid (A3.out.below q A3.out.lt)
      have B4 := Lib.hid (B3.out.below q B3.out.lt)
      have HE1 := Lib.hid (encode_some (by omega) (ND1.out.below Q4.out))
      have HG4 := Lib.hid hg4
      have HF4 := Lib.hid hf4
      clear q Q3 A3 B3 HE0 u0 u1 u2 u3 u4 ul hg4 hf4
      obtain ⟨v0, v1, v2, v3, v4, vl⟩ := five B4.out
      go_wp2_with fail
      refine HE1.out.mono ?_
      rintro e w5 ⟨⟨a5, m5, d5, z5, rfl, hg5, hf5⟩, q⟩
      have Q5 := Lib.hid (bthen Q4.out q)
      have A5 := Lib.hid (A4.out.below q A4.out.lt)
      have B5 := Lib.hid (B4.out.below q B4.out.lt)
      have HG5 := Lib.hid hg5
      have HF5 := Lib.hid hf5
      have q45 := Lib.hid q
      clear q Q4 A4 B4 HE1 v0 v1 v2 v3 v4 vl hg5 hf5
      obtain ⟨u0, u1, u2, u3, u4, ul⟩ := five A5.out
      obtain ⟨v0, v1, v2, v3, v4, vl⟩ := five B5.out
      have HV0 := Lib.hid (fun W (h : Below w.heap.size w W) => ref_valid_any (w := W) (by omega) (ND0.out.below h))
      have HV1 := Lib.hid (fun W (h : Below w.heap.size w W) => ref_valid_any (w := W) (by omega) (ND1.out.below h))
      have e0 : (okT t0 && decide (depT t0 ≤ 16)) = okV t0 := rfl
      have e1 : (okT t1 && decide (depT t1 ≤ 16)) = okV t1 := rfl
      rw [e0] at HV0
      rw [e1] at HV1
      clear e0 e1
      by_cases hv : okV t0 = true ∧ okV t1 = true
      · obtain ⟨hv0, hv1⟩ := hv
        obtain ⟨rfl, hm4, hb4⟩ := HG4.out hv0
        obtain ⟨rfl, hm5, hb5⟩ := HG5.out hv1
        have hs0 := encT_size t0 (by omega)
        have hs1 := encT_size t1 (by omega)
        obtain ⟨mm, hmm⟩ : ∃ mm, Hid (min m4 m5 = mm) := ⟨_, rfl⟩
        have hk1 : mm ≤ m4 := by have := hmm.out; omega
        have hk2 : mm ≤ m5 := by have := hmm.out; omega
        have hmin : min (m4 : Int) m5 = mm := by have := hmm.out; omega
        have X5 := Lib.hid (bs_take (hb4.below q45.out) hk1)
        have Y5 := Lib.hid (bs_take hb5 hk2)
        have HT := Lib.hid (tree_take (okV_ok hv0) (okV_ok hv1) (by omega) (by omega) (m := mm) (by rw [← hm4, ← hm5]; exact hmm.out.symm))
        have hZ : Hid (eqB ((encT t0).take mm) ((encT t1).take mm) = eqT t0 t1) := by
          show _ = _
          rw [Bool.eq_iff_iff, eqB_iff, eqT_iff]
          exact HT.out
        have hcap4 := (hb4.below q45.out).2.1
        have hcap5 := hb5.2.1
        have hmx4 := hb4.2.2.1
        have hmx5 := hb5.2.2.1
        unfold maxLen at hmx4 hmx5
        have hki1 : (mm : Int) ≤ d4 := by omega
        have hki2 : (mm : Int) ≤ d5 := by omega
        have hki0 : (0 : Int) ≤ mm := by omega
        have hm4b : (m4 : Int) ≤ 10000 := by omega
        have hm5b : (m5 : Int) ≤ 10000 := by omega
        have PB := Lib.hid (fun W (h : Below w5.heap.size w5 W) => bytes_any (X5.out.below h) (Y5.out.below h))
        have PN := Lib.hid (fun W (h : Below w5.heap.size w5 W) => node_any _ t0 t1 W _ _ _ _ (Nat.le_refl _) ((ND0.out.below Q5.out).below h) ((ND1.out.below Q5.out).below h))
        rw [hZ.out] at PB
        generalize eqT t0 t1 = Z at *
        clear hb4 hb5 hs0 hs1 hZ HT HG4 HG5 HF4 HF5 hm4 hm5 X5 Y5 hcap4 hcap5 hmx4 hmx5 q45 HV0 HV1
        go_wp2_with fail
        have D5 : Hid (Below w5.heap.size w5 w5.drew) := below_drewN (Below.refl _ _) 1
        go_region_held3 (fun w' => w'.cell? ⟨w.heap.size, 0, none⟩ = some (.int .i64 c) ∧ w'.cell? ⟨w.heap.size, 1, none⟩ = some (.int .i64 n) ∧ w'.cell? ⟨w.heap.size, 2, none⟩ = some (.bool k) ∧ w'.cell? ⟨w.heap.size, 3, none⟩ = some (.slice a m d) ∧ w'.cell? ⟨w.heap.size, 4, none⟩ = some (.slice ka kn kc) ∧ w'.cell? ⟨w.heap.size + 1, 0, none⟩ = some (.int .i64 c') ∧ w'.cell? ⟨w.heap.size + 1, 1, none⟩ = some (.int .i64 n') ∧ w'.cell? ⟨w.heap.size + 1, 2, none⟩ = some (.bool k') ∧ w'.cell? ⟨w.heap.size + 1, 3, none⟩ = some (.slice a' m' d') ∧ w'.cell? ⟨w.heap.size + 1, 4, none⟩ = some (.slice ka' kn' kc'))
          (first | with_reducible exact ⟨p0, p1, p2, p3, p4, r0, r1, r2, r3, r4⟩ | exact ⟨u0, u1, u2, u3, u4, v0, v1, v2, v3, v4⟩)
          (first
           | (go_at_call 18; (with_reducible refine (PB.out _ D5.out).mono ?_); rintro e w6 ⟨rfl, rfl⟩)
           | (go_at_call 13; (with_reducible refine (PN.out _ D5.out).mono ?_); rintro e w7 ⟨rfl, q7⟩; have Q7 : Hid (Below w.heap.size w w7) := bthen (bthen Q5.out D5.out) q7; have A7 := (A5.out.drewN 1).below q7 A5.out.lt; have B7 := (B5.out.drewN 1).below q7 B5.out.lt; obtain ⟨p0, p1, p2, p3, p4, pl⟩ := five A7; obtain ⟨r0, r1, r2, r3, r4, rl⟩ := five B7; clear q7 A7 B7))
        cases Z with
        | true =>
          go_wp2_with fail
          go_ret
          exact ⟨rfl, Q7.out⟩
        | false =>
          go_wp2_with fail
          go_ret
          exact ⟨rfl, Q7.out⟩
      · have g4 := HG4.out
        have g5 := HG5.out
        have f4 := HF4.out
        have f5 := HF5.out
        clear HG4 HG5 HF4 HF5 q45
        generalize okV t0 = V0 at *
        generalize okV t1 = V1 at *
        cases V0 with
        | true =>
          cases V1 with
          | true => exact absurd ⟨rfl, rfl⟩ hv
          | false =>
            obtain ⟨rfl, _, _⟩ := g4 rfl
            obtain rfl := f5 rfl
            clear g5 f4
            clear hv
            go_wp2_with fail
            refine (HV0.out _ Q5.out).mono ?_
            rintro e w6 ⟨rfl, q⟩
            have Q6 := Lib.hid (bthen Q5.out q)
            have B6 := Lib.hid (B5.out.below q B5.out.lt)
            clear q HV0 v0 v1 v2 v3 v4 vl
            obtain ⟨v0, v1, v2, v3, v4, vl⟩ := five B6.out
            go_wp2_with fail
            refine (HV1.out _ Q6.out).mono ?_
            rintro e w7 ⟨rfl, q⟩
            have Q7 := Lib.hid (bthen Q6.out q)
            clear q HV1
            go_wp2_with fail
            go_ret
            exact ⟨rfl, Q7.out⟩
        | false =>
          cases V1 with
          | true =>
            obtain ⟨rfl, _, _⟩ := g5 rfl
            obtain rfl := f4 rfl
            clear g4 f5
            clear hv
            go_wp2_with fail
            refine (HV0.out _ Q5.out).mono ?_
            rintro e w6 ⟨rfl, q⟩
            have Q6 := Lib.hid (bthen Q5.out q)
            have B6 := Lib.hid (B5.out.below q B5.out.lt)
            clear q HV0 v0 v1 v2 v3 v4 vl
            obtain ⟨v0, v1, v2, v3, v4, vl⟩ := five B6.out
            go_wp2_with fail
            refine (HV1.out _ Q6.out).mono ?_
            rintro e w7 ⟨rfl, q⟩
            have Q7 := Lib.hid (bthen Q6.out q)
            clear q HV1
            go_wp2_with fail
            go_ret
            exact ⟨rfl, Q7.out⟩
          | false =>
            obtain rfl := f4 rfl
            obtain rfl := f5 rfl
            clear g4 g5
            clear hv
            go_wp2_with fail
            refine (HV0.out _ Q5.out).mono ?_
            rintro e w6 ⟨rfl, q⟩
            have Q6 := Lib.hid (bthen Q5.out q)
            have B6 := Lib.hid (B5.out.below q B5.out.lt)
            clear q HV0 v0 v1 v2 v3 v4 vl
            obtain ⟨v0, v1, v2, v3, v4, vl⟩ := five B6.out
            go_wp2_with fail
            refine (HV1.out _ Q6.out).mono ?_
            rintro e w7 ⟨rfl, q⟩
            have Q7 := Lib.hid (bthen Q6.out q)
            clear q HV1
            go_wp2_with fail
            go_ret
            exact ⟨rfl, Q7.out⟩
    · have hd1 : decide (sizT t1 ≤ 1500) = false := by simpa using h1
      rw [hd1]
      go_wp2_with fail
      refine (HA.out _).mono ?_
      rintro e w4 ⟨rfl, q⟩
      have Q4 := Lib.hid (bthen Q3.out q)
      go_wp2_with fail
      go_ret
      exact ⟨rfl, Q4.out⟩
  · have hd0 : decide (sizT t0 ≤ 1500) = false := by simpa using h0
    rw [hd0]
    go_wp2_with fail
    refine (HA.out _).mono ?_
    rintro e w4 ⟨rfl, q⟩
    have Q4 := Lib.hid (bthen Q2.out q)
    go_wp2_with fail
    go_ret
    exact ⟨rfl, Q4.out⟩
end Go.Proofs.Ytgccjdhkpgmnoaa.treePrefix
