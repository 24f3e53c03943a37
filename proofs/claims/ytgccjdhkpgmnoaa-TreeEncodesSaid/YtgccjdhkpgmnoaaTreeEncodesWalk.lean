/-
  The walk of the law TreeEncodes.
-/
import Derived.Test.YtgccjdhkpgmnoaaAwakeTree
import Derived.Test.YtgccjdhkpgmnoaaTreeLeft
import Derived.Deep.RegionHeld3
namespace Go.Proofs.Ytgccjdhkpgmnoaa.treeEncodes
open Go.RowKit

theorem nd_form {w : World} {R : Nat → Prop} {cs : List Value} {t : Tree} (h : NdCs w R cs t) : ∃ (c n : Int) (k : Bool) (a : Option Addr) (m d : Nat) (ka : Option Addr) (kn kc : Nat), cs = [.int .i64 c, .int .i64 n, .bool k, .slice a m d, .slice ka kn kc] := by
  cases t with
  | node c n k l ks =>
    obtain ⟨a, m, d, ka, kn, kc, e, _⟩ := h
    exact ⟨c, n, k, a, m, d, ka, kn, kc, e⟩

set_option maxRecDepth 100000 in
set_option maxHeartbeats 4000000 in
theorem walk {w : World} {cs0 : List Value} {t0 : Tree} (b0 : NdCs w (fun _ => True) cs0 t0) :
    Calls Try.prog 4 #[.agg cs0.toArray] w fun e w' => e = .returned (.bool true) ∧ Below w.heap.size w w' := by
  have HA := Lib.hid (awakeTree_any)
  have HF0 := Lib.hid (fun W (h : Below w.heap.size w W) => few_any (w := W) (M0 := 1500) (by omega) (b0.below h))
  have ND0 := Lib.hid b0
  cases t0 with
  | node c n k l ks =>
  obtain ⟨a, m, d, ka, kn, kc, rfl, _⟩ := b0.parts
  clear b0
  have Q0 := Lib.hid (bal (Below.refl _ w) (.cells #[.int .i64 c, .int .i64 n, .bool k, .slice a m d, .slice ka kn kc] 26))
  have A0 := Lib.hid (Blk.new w 26 #[.int .i64 c, .int .i64 n, .bool k, .slice a m d, .slice ka kn kc])
  generalize hT0 : Tree.node c n k l ks = t0 at *
  clear hT0
  go_enter Try.func4, Try.ntmps4
  go_wp2_with fail
  refine (HA.out _).mono ?_
  rintro e w1 ⟨rfl, q⟩
  have Q1 := Lib.hid (bthen Q0.out q)
  have A1 := Lib.hid (A0.out.below q A0.out.lt)
  obtain ⟨u0, u1, u2, u3, u4, ul⟩ := five A1.out
  clear q Q0 A0
  go_wp2_with fail
  refine (HF0.out _ Q1.out).mono ?_
  rintro e w2 ⟨rfl, q⟩
  have Q2 := Lib.hid (bthen Q1.out q)
  have A2 := Lib.hid (A1.out.below q A1.out.lt)
  clear q Q1 A1 HF0 u0 u1 u2 u3 u4 ul
  by_cases h0 : sizT t0 ≤ 1500
  · have hd0 : decide (sizT t0 ≤ 1500) = true := by simpa using h0
    rw [hd0]
    clear hd0 HA
    have hs0 := encT_size t0 (by omega)
    have HV1 := Lib.hid (fun W (h : Below w.heap.size w W) => valid_any (w := W) (ND0.out.below h))
    have HV2 := Lib.hid (fun W (h : Below w.heap.size w W) => ref_valid_any (w := W) (by omega) (ND0.out.below h))
    have HD1 := Lib.hid (fun W (h : Below w.heap.size w W) => depth_any 1500 t0 W _ _ h0 (by omega) (ND0.out.below h))
    have HD2 := Lib.hid (fun W (h : Below w.heap.size w W) => ref_depth_any 1500 t0 W _ _ h0 (by omega) (ND0.out.below h))
    have HC1 := Lib.hid (fun W (h : Below w.heap.size w W) => count_any 1500 t0 W _ _ h0 (by omega) (ND0.out.below h))
    have HC2 := Lib.hid (fun W (h : Below w.heap.size w W) => ref_count_any 1500 t0 W _ _ h0 (by omega) (ND0.out.below h))
    rcases hv : (okT t0 && decide (depT t0 ≤ 16)) with _ | _
    · have HE1 := Lib.hid (fun W (h : Below w.heap.size w W) => encode_tree_bad (w := W) hv (ND0.out.below h))
      have HE2 := Lib.hid (fun W (h : Below w.heap.size w W) => ref_encode_bad (w := W) (by omega) hv (ND0.out.below h))
      rw [hv] at HV1 HV2
      clear hv hs0
      obtain ⟨u0, u1, u2, u3, u4, ul⟩ := five A2.out
      go_wp2_with fail
      refine (HE1.out _ Q2.out).mono ?_
      rintro e w3 ⟨rfl, q⟩
      have Q3 := Lib.hid (bthen Q2.out q)
      have A3 := Lib.hid (A2.out.below q A2.out.lt)
      clear q Q2 A2 HE1 u0 u1 u2 u3 u4 ul
      obtain ⟨u0, u1, u2, u3, u4, ul⟩ := five A3.out
      go_wp2_with fail
      refine (HE2.out _ Q3.out).mono ?_
      rintro e w4 ⟨rfl, q⟩
      have Q4 := Lib.hid (bthen Q3.out q)
      have A4 := Lib.hid (A3.out.below q A3.out.lt)
      clear q Q3 A3 HE2 u0 u1 u2 u3 u4 ul
      obtain ⟨u0, u1, u2, u3, u4, ul⟩ := five A4.out
      have HB := Lib.hid (fun W => bytes_any (w := W) (Bs.nil_ W) (Bs.nil_ W))
      rw [eqB_self] at HB
      go_wp2_with fail
      have Q4d : Hid (Below w.heap.size w w4.drew) := below_draw Q4.out
      have A4d : Hid (Blk w4.drew w.heap.size 26 #[.int .i64 c, .int .i64 n, .bool k, .slice a m d, .slice ka kn kc]) := A4.out.drewN 1
      go_region_held3 (fun w' => w'.cell? ⟨w.heap.size, 0, none⟩ = some (.int .i64 c) ∧ w'.cell? ⟨w.heap.size, 1, none⟩ = some (.int .i64 n) ∧ w'.cell? ⟨w.heap.size, 2, none⟩ = some (.bool k) ∧ w'.cell? ⟨w.heap.size, 3, none⟩ = some (.slice a m d) ∧ w'.cell? ⟨w.heap.size, 4, none⟩ = some (.slice ka kn kc))
        (first | exact ⟨u0, u1, u2, u3, u4⟩ | with_reducible exact ⟨p100, p101, p102, p103, p104⟩ | with_reducible exact ⟨p90, p91, p92, p93, p94⟩ | with_reducible exact ⟨p80, p81, p82, p83, p84⟩ | with_reducible exact ⟨p70, p71, p72, p73, p74⟩ | with_reducible exact ⟨p60, p61, p62, p63, p64⟩ | with_reducible exact ⟨p50, p51, p52, p53, p54⟩)
        (first
         | (go_at_call 18; (with_reducible refine (HB.out _).mono ?_); rintro e w44 ⟨rfl, rfl⟩)
         | (go_at_call 19; (with_reducible refine (HV1.out _ Q4d.out).mono ?_); rintro e w5 ⟨rfl, q5⟩; have Q5 := Lib.hid (bthen Q4d.out q5); have A5 := Lib.hid (A4d.out.below q5 A4d.out.lt); obtain ⟨p50, p51, p52, p53, p54, p5l⟩ := five A5.out; clear q5)
         | (go_at_call 20; (with_reducible refine (HV2.out _ Q5.out).mono ?_); rintro e w6 ⟨rfl, q6⟩; have Q6 := Lib.hid (bthen Q5.out q6); have A6 := Lib.hid (A5.out.below q6 A5.out.lt); obtain ⟨p60, p61, p62, p63, p64, p6l⟩ := five A6.out; clear q6)
         | (go_at_call 21; (with_reducible refine (HD1.out _ Q6.out).mono ?_); rintro e w7 ⟨rfl, q7⟩; have Q7 := Lib.hid (bthen Q6.out q7); have A7 := Lib.hid (A6.out.below q7 A6.out.lt); obtain ⟨p70, p71, p72, p73, p74, p7l⟩ := five A7.out; clear q7)
         | (go_at_call 22; (with_reducible refine (HD2.out _ Q7.out).mono ?_); rintro e w8 ⟨rfl, q8⟩; have Q8 := Lib.hid (bthen Q7.out q8); have A8 := Lib.hid (A7.out.below q8 A7.out.lt); obtain ⟨p80, p81, p82, p83, p84, p8l⟩ := five A8.out; clear q8)
         | (go_at_call 23; (with_reducible refine (HC1.out _ Q8.out).mono ?_); rintro e w9 ⟨rfl, q9⟩; have Q9 := Lib.hid (bthen Q8.out q9); have A9 := Lib.hid (A8.out.below q9 A8.out.lt); obtain ⟨p90, p91, p92, p93, p94, p9l⟩ := five A9.out; clear q9)
         | (go_at_call 24; (with_reducible refine (HC2.out _ Q9.out).mono ?_); rintro e w10 ⟨rfl, q10⟩; have Q10 := Lib.hid (bthen Q9.out q10); have A10 := Lib.hid (A9.out.below q10 A9.out.lt); obtain ⟨p100, p101, p102, p103, p104, p10l⟩ := five A10.out; clear q10))
      go_wp2_with fail
      go_ret
      exact ⟨rfl, Q10.out⟩
    · have HE1 := Lib.hid (fun W (h : Below w.heap.size w W) => encode_tree_good (w := W) (by omega) hv (ND0.out.below h))
      have HE2 := Lib.hid (fun W (h : Below w.heap.size w W) => ref_encode_good (w := W) (by omega) hv (ND0.out.below h))
      rw [hv] at HV1 HV2
      rw [Bool.and_eq_true, decide_eq_true_eq] at hv
      have hp := parseT_enc hv.1 hv.2 (by omega)
      have HP := Lib.hid (fun (W : World) (aa : Option Addr) (cc : Nat) (h : Bs W aa (encT t0).length cc (encT t0)) => parse_any h (by omega))
      rw [hp] at HP
      unfold ParsePost erV at HP
      simp only at HP
      have HN := Lib.hid (fun (w : World) (R R' : Nat → Prop) (cs cs' : List Value) (h : NdCs w R cs t0) (h' : NdCs w R' cs' t0) => node_any _ t0 t0 w R R' cs cs' (Nat.le_refl _) h h')
      rw [eqT_self] at HN
      obtain ⟨Y, hY⟩ : ∃ Y, Hid (encT t0 = Y) := ⟨_, rfl⟩
      rw [hY.out] at HE1 HE2 HP
      clear hv hp hs0
      obtain ⟨u0, u1, u2, u3, u4, ul⟩ := five A2.out
      go_wp2_with fail
      refine (HE1.out _ Q2.out).mono ?_
      rintro e w3 ⟨a3, c3, rfl, ho3, q⟩
      have Q3 := Lib.hid (bthen Q2.out q)
      have A3 := Lib.hid (A2.out.below q A2.out.lt)
      have X3 := Lib.hid ho3.bs
      clear q Q2 A2 HE1 u0 u1 u2 u3 u4 ul ho3
      obtain ⟨u0, u1, u2, u3, u4, ul⟩ := five A3.out
      go_wp2_with fail
      refine (HE2.out _ Q3.out).mono ?_
      rintro e w4 ⟨a4, c4, rfl, ho4, q⟩
      have Q4 := Lib.hid (bthen Q3.out q)
      have A4 := Lib.hid (A3.out.below q A3.out.lt)
      have X4 := Lib.hid (X3.out.below q)
      have Y4 := Lib.hid ho4.bs
      clear q Q3 A3 HE2 u0 u1 u2 u3 u4 ul X3 ho4
      obtain ⟨u0, u1, u2, u3, u4, ul⟩ := five A4.out
      have HB := Lib.hid (bytes_any (w := w4.drew) X4.out.drew Y4.out.drew)
      rw [eqB_self] at HB
      go_wp2_with fail
      have Q4d : Hid (Below w.heap.size w w4.drew) := below_draw Q4.out
      have A4d : Hid (Blk w4.drew w.heap.size 26 #[.int .i64 c, .int .i64 n, .bool k, .slice a m d, .slice ka kn kc]) := A4.out.drewN 1
      have QW : Hid (Below w4.heap.size w4 w4.drew) := below_drewN (Below.refl _ _) 1
      go_region_held3 (fun w' => w'.cell? ⟨w.heap.size, 0, none⟩ = some (.int .i64 c) ∧ w'.cell? ⟨w.heap.size, 1, none⟩ = some (.int .i64 n) ∧ w'.cell? ⟨w.heap.size, 2, none⟩ = some (.bool k) ∧ w'.cell? ⟨w.heap.size, 3, none⟩ = some (.slice a m d) ∧ w'.cell? ⟨w.heap.size, 4, none⟩ = some (.slice ka kn kc))
        (first | exact ⟨u0, u1, u2, u3, u4⟩ | with_reducible exact ⟨p100, p101, p102, p103, p104⟩ | with_reducible exact ⟨p90, p91, p92, p93, p94⟩ | with_reducible exact ⟨p80, p81, p82, p83, p84⟩ | with_reducible exact ⟨p70, p71, p72, p73, p74⟩ | with_reducible exact ⟨p60, p61, p62, p63, p64⟩ | with_reducible exact ⟨p50, p51, p52, p53, p54⟩)
        (first
         | (go_at_call 18; (with_reducible refine (HB.out).mono ?_); rintro e w44 ⟨rfl, rfl⟩)
         | (go_at_call 19; (with_reducible refine (HV1.out _ Q4d.out).mono ?_); rintro e w5 ⟨rfl, q5⟩; have Q5 := Lib.hid (bthen Q4d.out q5); have A5 := Lib.hid (A4d.out.below q5 A4d.out.lt); obtain ⟨p50, p51, p52, p53, p54, p5l⟩ := five A5.out; have QW5 := Lib.hid (bthen QW.out q5); clear q5)
         | (go_at_call 20; (with_reducible refine (HV2.out _ Q5.out).mono ?_); rintro e w6 ⟨rfl, q6⟩; have Q6 := Lib.hid (bthen Q5.out q6); have A6 := Lib.hid (A5.out.below q6 A5.out.lt); obtain ⟨p60, p61, p62, p63, p64, p6l⟩ := five A6.out; have QW6 := Lib.hid (bthen QW5.out q6); clear q6)
         | (go_at_call 21; (with_reducible refine (HD1.out _ Q6.out).mono ?_); rintro e w7 ⟨rfl, q7⟩; have Q7 := Lib.hid (bthen Q6.out q7); have A7 := Lib.hid (A6.out.below q7 A6.out.lt); obtain ⟨p70, p71, p72, p73, p74, p7l⟩ := five A7.out; have QW7 := Lib.hid (bthen QW6.out q7); clear q7)
         | (go_at_call 22; (with_reducible refine (HD2.out _ Q7.out).mono ?_); rintro e w8 ⟨rfl, q8⟩; have Q8 := Lib.hid (bthen Q7.out q8); have A8 := Lib.hid (A7.out.below q8 A7.out.lt); obtain ⟨p80, p81, p82, p83, p84, p8l⟩ := five A8.out; have QW8 := Lib.hid (bthen QW7.out q8); clear q8)
         | (go_at_call 23; (with_reducible refine (HC1.out _ Q8.out).mono ?_); rintro e w9 ⟨rfl, q9⟩; have Q9 := Lib.hid (bthen Q8.out q9); have A9 := Lib.hid (A8.out.below q9 A8.out.lt); obtain ⟨p90, p91, p92, p93, p94, p9l⟩ := five A9.out; have QW9 := Lib.hid (bthen QW8.out q9); clear q9)
         | (go_at_call 24; (with_reducible refine (HC2.out _ Q9.out).mono ?_); rintro e w10 ⟨rfl, q10⟩; have Q10 := Lib.hid (bthen Q9.out q10); have A10 := Lib.hid (A9.out.below q10 A9.out.lt); obtain ⟨p100, p101, p102, p103, p104, p10l⟩ := five A10.out; have QW10 := Lib.hid (bthen QW9.out q10); clear q10))
      have X10 := Lib.hid (X4.out.below QW10.out)
      go_wp2_with fail
      refine (HP.out _ _ _ X10.out).mono ?_
      rintro e w11 ⟨cs, rfl, hnd, q⟩
      obtain ⟨c1, n1, k1, a1, m1, d1, ka1, kn1, kc1, rfl⟩ := nd_form hnd
      have U := Lib.hid (bal (bal (Below.refl _ w11) (.cells #[.int .i64 c1, .int .i64 n1, .bool k1, .slice a1 m1 d1, .slice ka1 kn1 kc1] 26)) (.cells #[.int .i64 0, .int .i64 0] 29))
      have NX := Lib.hid (hnd.below U.out)
      have Q11 := Lib.hid (bthen (bthen Q10.out q) U.out)
      have A11 := Lib.hid (A10.out.below q A10.out.lt)
      have HNN := Lib.hid (HN.out _ _ _ _ _ NX.out (ND0.out.below Q11.out))
      obtain ⟨u0, u1, u2, u3, u4, ul⟩ := five A11.out
      clear q hnd p100 p101 p102 p103 p104 p10l
      go_wp2_with fail
      refine HNN.out.mono ?_
      rintro e w12 ⟨rfl, q⟩
      have Q12 := Lib.hid (bthen Q11.out q)
      go_wp2_with fail
      go_ret
      exact ⟨rfl, Q12.out⟩
  · have hd0 : decide (sizT t0 ≤ 1500) = false := by simpa using h0
    rw [hd0]
    go_wp2_with fail
    refine (HA.out _).mono ?_
    rintro e w4 ⟨rfl, q⟩
    have Q4 := Lib.hid (bthen Q2.out q)
    go_wp2_with fail
    go_ret
    exact ⟨rfl, Q4.out⟩
end Go.Proofs.Ytgccjdhkpgmnoaa.treeEncodes
