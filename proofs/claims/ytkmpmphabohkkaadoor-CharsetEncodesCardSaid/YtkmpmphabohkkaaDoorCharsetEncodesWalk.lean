/-
  The walk of the law CharsetEncodes.
-/
import Derived.Test.YtkmpmphabohkkaaDoorChAwake
namespace Go.Proofs.YtkmpmphabohkkaaDoor.charsetEncodes
open Go.RowKit

theorem te_len {k : Int} {s : List UInt8} : (teL k s).length ≤ 4 * s.length := by
  rcases h : vT k s with _ | _
  · rw [(te_no h).1]
    exact Nat.zero_le _
  · rw [(te_yes h).1]
    have := octL_le (w := widK k) (ptsL s)
    have := ptsL_len s
    omega
theorem td_te {k : Int} {s : List UInt8} (h : vT k s = true) : tdS k (teL k s) = s ∧ tdK k (teL k s) = k ∧ tdC k (teL k s) = 0 := by
  have hd := decT_enc h
  obtain ⟨_, _, _, hw, _⟩ := vT_some h
  have hw' : ¬ widK k < 0 := by omega
  unfold tdS tdK tdC
  rw [hd]
  refine ⟨rfl, rfl, ?_⟩
  show (if widK k < 0 then _ else _) = (0 : Nat)
  rw [if_neg hw']
  rfl

set_option maxRecDepth 100000 in
set_option maxHeartbeats 4000000 in
theorem walk {w : World} (hWd : Wd w) {k : Int} {s : List UInt8} :
    Calls Tryd.prog 3 #[.agg #[.int .i64 k, .string ⟨s.toArray⟩]] w fun e w' => e = .returned (.bool true) ∧ Below w.heap.size w w' := by
  have HW := Lib.hid hWd
  clear hWd
  have HA := Lib.hid (fun v (hq : Below w.heap.size w v) => awakeCh_any v (HW.out.below hq))
  obtain ⟨m, hm⟩ : ∃ m, s.length = m := ⟨_, rfl⟩
  have hs : (⟨s.toArray⟩ : ByteArray).size = m := by rw [← hm]; rfl
  obtain ⟨A, hA⟩ : ∃ A, w.heap.size = A := ⟨_, rfl⟩
  have Q1 := Lib.hid (bal (Below.refl w.heap.size w) (.cells #[.int .i64 k, .string ⟨s.toArray⟩] 23))
  have Z1 := Lib.hid (Blk.new w 23 #[.int .i64 k, .string ⟨s.toArray⟩])
  rw [hA] at Z1
  by_cases hz : m ≤ 1000
  · have hz2 : ¬ (1000 : Int) < m := by omega
    have H1 := Lib.hid (fun v (hq : Below w.heap.size w v) => tenc_any k s (by omega) v (HW.out.below hq))
    have H2 := Lib.hid (fun w => ref_tenc_any k s (by omega) w)
    have H3 := Lib.hid (fun v (hq : Below w.heap.size w v) => tvalid_any k s (by omega) v (HW.out.below hq))
    have H4 := Lib.hid (fun w => ref_tvalid_any k s (by omega) w)
    have H5 := Lib.hid (fun v (hq : Below w.heap.size w v) => tlen_any k s (by omega) v (HW.out.below hq))
    have H6 := Lib.hid (fun w => ref_tlen_any k s (by omega) w)
    have hle := te_len (k := k) (s := s)
    have H7 := Lib.hid (fun v (hq : Below w.heap.size w v) a c (h : Bs v a (teL k s).length c (teL k s)) => tdec_any k (HW.out.below hq) h (by omega))
    have HV := Lib.hid (fun h => te_no (k := k) (s := s) h)
    have HY := Lib.hid (fun h => (te_yes (k := k) (s := s) h).2)
    have HD := Lib.hid (fun h => td_te (k := k) (s := s) h)
    unfold tV at H1 H2 H3 H4 H5 H6 H7
    have HB := Lib.hid (fun w a b c d (hx : Bs w a (teL k s).length c (teL k s)) (hy : Bs w b (teL k s).length d (teL k s)) => bytes_any hx hy)
    rw [eqB_self] at HB
    generalize lenT k s = LN at *
    generalize teL k s = E at *
    clear hle hm
    go_enter Tryd.func3, Tryd.ntmps3
    go_wp2_with fail
    generalize w.alloc (.cells #[.int .i64 k, .string ⟨s.toArray⟩] 23) = w1 at *
    clear hA
    obtain ⟨z0, z1, zl, zf⟩ := Z1.out.cells2
    with_reducible refine (HA.out _ Q1.out).mono ?_
    rintro e w2 ⟨rfl, q⟩
    clear z0 z1 zl zf
    have Q2 := Lib.hid (bthen Q1.out q)
    have Z2 := Lib.hid (Z1.out.below q Z1.out.lt)
    clear q 
    obtain ⟨z0, z1, zl, zf⟩ := Z2.out.cells2
    go_wp2_with fail
    with_reducible refine (H1.out _ Q2.out).mono ?_
    rintro e w3 ⟨a3, c3, rfl, ho, q⟩
    clear z0 z1 zl zf
    have Q3 := Lib.hid (bthen Q2.out q)
    have Z3 := Lib.hid (Z2.out.below q Z2.out.lt)
    have C3 := Lib.hid (ho)
    clear q ho
    obtain ⟨z0, z1, zl, zf⟩ := Z3.out.cells2
    go_wp2_with fail
    with_reducible refine (H2.out _).mono ?_
    rintro e w4 ⟨a4, c4, rfl, ho, q⟩
    clear z0 z1 zl zf
    have Q4 := Lib.hid (bthen Q3.out q)
    have Z4 := Lib.hid (Z3.out.below q Z3.out.lt)
    have C4 := Lib.hid (C3.out.below q)
    have D4 := Lib.hid (ho.bs)
    clear q ho
    obtain ⟨z0, z1, zl, zf⟩ := Z4.out.cells2
    go_wp2_with fail
    go_region_held3 (fun w' => w'.cell? ⟨A, 0, none⟩ = some (.int .i64 k) ∧ w'.cell? ⟨A, 1, none⟩ = some (.string ⟨s.toArray⟩)) (first | exact ⟨z0, z1⟩ | exact ⟨k0, k1⟩ | exact ⟨j0, j1⟩ | exact ⟨h0, h1⟩ | exact ⟨g0, g1⟩ | assumption)
      (first
       | (go_at_call 11; (with_reducible refine (HB.out _ _ _ _ _ C4.out.drew D4.out.drew).mono ?_); rintro e w' ⟨rfl, rfl⟩)
       | (go_at_call 12; (with_reducible refine (H3.out _ Q4.out.drew).mono ?_); rintro e w5 ⟨rfl, q⟩; have Q5 := Lib.hid (bthen Q4.out.drew q); have Z5 := Lib.hid ((Z4.out.drewN 1).below q (Z4.out.drewN 1).lt); have C5 := Lib.hid (C4.out.drew.below q); have D5 := Lib.hid (D4.out.drew.below q); clear q; obtain ⟨k0, k1, kl, kf⟩ := Z5.out.cells2)
       | (go_at_call 13; (with_reducible refine (H4.out _).mono ?_); rintro e w6 ⟨rfl, q⟩; have Q6 := Lib.hid (bthen Q5.out q); have Z6 := Lib.hid (Z5.out.below q Z5.out.lt); have C6 := Lib.hid (C5.out.below q); have D6 := Lib.hid (D5.out.below q); clear q; obtain ⟨j0, j1, jl, jf⟩ := Z6.out.cells2)
       | (go_at_call 14; (with_reducible refine (H5.out _ Q6.out).mono ?_); rintro e w7 ⟨rfl, q⟩; have Q7 := Lib.hid (bthen Q6.out q); have Z7 := Lib.hid (Z6.out.below q Z6.out.lt); have C7 := Lib.hid (C6.out.below q); have D7 := Lib.hid (D6.out.below q); clear q; obtain ⟨h0, h1, hl, hf⟩ := Z7.out.cells2)
       | (go_at_call 15; (with_reducible refine (H6.out _).mono ?_); rintro e w8 ⟨rfl, q⟩; have Q8 := Lib.hid (bthen Q7.out q); have Z8 := Lib.hid (Z7.out.below q Z7.out.lt); have C8 := Lib.hid (C7.out.below q); have D8 := Lib.hid (D7.out.below q); clear q; obtain ⟨g0, g1, gl, gf⟩ := Z8.out.cells2))
    clear z0 z1 zl zf k0 k1 kl kf j0 j1 jl jf h0 h1 hl hf g0 g1 gl gf
    obtain ⟨z0, z1, zl, zf⟩ := Z8.out.cells2
    rcases hv : vT k s with _ | _
    · have e1 := (HV.out hv).2
      rw [e1]
      clear e1 hv
      go_wp2_with fail
      go_ret
      exact ⟨rfl, Q8.out⟩
    · have e1 := HY.out hv
      rw [(HD.out hv).1, (HD.out hv).2.1, (HD.out hv).2.2] at H7
      rw [e1]
      clear e1 hv
      go_wp2_with fail
      with_reducible refine (H7.out _ Q8.out _ _ C8.out).mono ?_
      rintro e w9 ⟨rfl, q⟩
      clear z0 z1 zl zf
      have Q9 := Lib.hid (bthen Q8.out q)
      have Z9 := Lib.hid (Z8.out.below q Z8.out.lt)
      have C9 := Lib.hid (C8.out.below q)
      have D9 := Lib.hid (D8.out.below q)
      clear q 
      obtain ⟨z0, z1, zl, zf⟩ := Z9.out.cells2
      obtain ⟨G, hG⟩ : ∃ G, w9.heap.size = G := ⟨_, rfl⟩
      have zG := hltB zl hG
      go_wp2_with fail
      go_ret
      exact ⟨rfl, bal Q9.out _⟩
  · have hz2 : (1000 : Int) < m := by omega
    go_enter Tryd.func3, Tryd.ntmps3
    go_wp2_with fail
    generalize w.alloc (.cells #[.int .i64 k, .string ⟨s.toArray⟩] 23) = w1 at *
    clear hA
    obtain ⟨z0, z1, zl, zf⟩ := Z1.out.cells2
    with_reducible refine (HA.out _ Q1.out).mono ?_
    rintro e w2 ⟨rfl, q⟩
    clear z0 z1 zl zf
    have Q2 := Lib.hid (bthen Q1.out q)
    have Z2 := Lib.hid (Z1.out.below q Z1.out.lt)
    clear q 
    obtain ⟨z0, z1, zl, zf⟩ := Z2.out.cells2
    go_wp2_with fail
    with_reducible refine (HA.out _ Q2.out).mono ?_
    rintro e w3 ⟨rfl, q⟩
    clear z0 z1 zl zf
    have Q3 := Lib.hid (bthen Q2.out q)
    have Z3 := Lib.hid (Z2.out.below q Z2.out.lt)
    clear q 
    obtain ⟨z0, z1, zl, zf⟩ := Z3.out.cells2
    go_wp2_with fail
    go_ret
    exact ⟨rfl, Q3.out⟩
end Go.Proofs.YtkmpmphabohkkaaDoor.charsetEncodes
