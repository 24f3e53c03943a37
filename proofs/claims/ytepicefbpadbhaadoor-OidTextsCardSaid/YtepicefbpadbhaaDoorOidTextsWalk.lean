/-
  The walk of the law OidTexts.
-/
import Derived.Test.YtepicefbpadbhaaDoorOidAwake
import Derived.Test.YtepicefbpadbhaaDoorOidRefText
import Derived.Test.YtepicefbpadbhaaDoorOidRefOrd
import Derived.Test.YtepicefbpadbhaaDoorOidRefDec
namespace Go.Proofs.YtepicefbpadbhaaDoor.oidTexts
open Go.RowKit

theorem eqN_self (xs : List Nat) : eqN xs xs = true := by simp [eqN]
theorem tT_right {L : List Nat} (h : rightO L = true) : tT L = textO L ∧ tC L = 0 := by
  unfold tT tC
  rw [if_pos h, if_pos h]
  exact ⟨rfl, rfl⟩
theorem tC_wrong {L : List Nat} (h : rightO L = false) : tC L = 8 := by
  unfold tC
  rw [if_neg (by rw [h]; simp)]
set_option maxRecDepth 100000 in
set_option maxHeartbeats 8000000 in
theorem walk {w : World} (hW : Wd w) {s : List UInt8} {aa : Option Addr} {n cc : Nat} (hx : ∃ L, Uk .u32 w aa n cc L ∧ ∀ x ∈ L, x ≤ maxArc) :
    Calls Tryd.prog 3 #[.string ⟨s.toArray⟩, .slice aa n cc] w fun e w' => e = .returned (.bool true) ∧ Below w.heap.size w w' := by
  obtain ⟨L, hx, hbd⟩ := hx
  have HW := Lib.hid (fun w' (h : Below w.heap.size w w') => hW.below h)
  have HA := Lib.hid (fun w' (h : Wd w') => awakeOid_any w' h)
  have HW0 := Lib.hid hW
  clear hW
  obtain ⟨S, hS⟩ : ∃ S, s.length = S := ⟨_, rfl⟩
  have hs : (⟨s.toArray⟩ : ByteArray).size = S := by rw [← hS]; rfl
  by_cases h1 : S ≤ 300
  · have h1a : ¬ (300 : Int) < S := by omega
    have h1b : ¬ (S : Int) > 300 := by omega
    by_cases h2 : n ≤ 60
    · have h2a : ¬ (60 : Int) < n := by omega
      have h2b : ¬ (n : Int) > 60 := by omega
      have hln : L.length = n := hx.1
      have H1 := Lib.hid (fun w (h : Wd w) => arcs_any w h s (by omega))
      have H2 := Lib.hid (fun w => refArcs_any w s (by omega))
      have H3 := Lib.hid (fun w' (h : Below w.heap.size w w') => text_any (HW.out _ h) (hx.below h) hbd (by omega))
      have H4 := Lib.hid (fun w' (h : Below w.heap.size w w') => refText_any (hx.below h) hbd (by omega))
      have H5 := Lib.hid (fun w (h : Wd w) => valid_any w h s (by omega))
      have H6 := Lib.hid (fun w => refValid_any w s (by omega))
      have hm0 := arcL_len s
      have hbA := arcL_bd s
      obtain ⟨m, hm⟩ : ∃ m, (arcL s).length = m := ⟨_, rfl⟩
      have H7 := Lib.hid (fun w' (h : Wd w') a c (hy : Uk .u32 w' a m c (arcL s)) => text_any h hy hbA (by omega))
      rw [hm] at H1 H2 hm0
      have hm1 : m ≤ 400 := by omega
      have hss : (s != s) = false := by simp
      have HX := Lib.hid hx
      clear hbA hx hm0
      have hle := textO_len hbd
      rcases hp : arcsO s with _ | A
      · rw [(arc_none hp).1] at H1 H2
        rw [val_none hp] at H5 H6
        clear hp hm H7
        generalize arcL s = A at *
        rcases hr : rightO L with _ | _
        · rw [tC_wrong hr] at H3 H4
          clear hr hbd hS hle
          generalize tT L = T at *
          have htt : (T != T) = false := by simp
          go_enter Tryd.func3, Tryd.ntmps3
          go_wp2_with fail
          with_reducible refine (HA.out _ HW0.out).mono ?_
          rintro e w1 ⟨rfl, q⟩
          have Q1 := Lib.hid q
          clear q
          go_wp2_with fail
          with_reducible refine (H1.out _ (HW.out _ Q1.out)).mono ?_
          rintro e w2 ⟨a2, c2, rfl, ho, q⟩
          have Q2 := Lib.hid (bthen Q1.out q)
          have A2 := Lib.hid ho.uk
          clear q ho Q1
          go_wp2_with fail
          with_reducible refine (H2.out _).mono ?_
          rintro e w3 ⟨a3, c3, rfl, ho, q⟩
          have Q3 := Lib.hid (bthen Q2.out q)
          have A3 := Lib.hid (A2.out.below q)
          have B3 := Lib.hid ho.uk
          clear q ho Q2 A2
          go_wp2_with fail
          with_reducible refine (H3.out _ Q3.out).mono ?_
          rintro e w4 ⟨rfl, q⟩
          have Q4 := Lib.hid (bthen Q3.out q)
          have A4 := Lib.hid (A3.out.below q)
          have B4 := Lib.hid (B3.out.below q)
          clear q Q3 A3 B3
          go_wp2_with fail
          with_reducible refine (H4.out _ Q4.out).mono ?_
          rintro e w5 ⟨rfl, rfl⟩
          go_wp2_with fail
          with_reducible refine (same_any A4.out B4.out (by omega) (by omega)).mono ?_
          rintro e w6 ⟨rfl, j, rfl⟩
          rw [eqN_self]
          have Q6 := Lib.hid (below_drewN Q4.out j)
          have A6 := Lib.hid (A4.out.below (below_drewN (Below.refl _ _) j))
          clear Q4 A4 B4
          go_wp2_with fail
          with_reducible refine (H5.out _ (HW.out _ Q6.out)).mono ?_
          rintro e w7 ⟨rfl, q⟩
          have Q7 := Lib.hid (bthen Q6.out q)
          have A7 := Lib.hid (A6.out.below q)
          clear q Q6 A6
          go_wp2_with fail
          with_reducible refine (H6.out _).mono ?_
          rintro e w8 ⟨rfl, q⟩
          have Q8 := Lib.hid (bthen Q7.out q)
          have A8 := Lib.hid (A7.out.below q)
          clear q Q7 A7
          go_wp2_with fail
          go_ret
          exact ⟨rfl, Q8.out⟩
        · have H8 := Lib.hid (fun w (h : Wd w) => arcs_any w h (textO L) (by omega))
          have hok := arcs_text ⟨hr, hbd⟩
          rw [(arc_some hok).1, (arc_some hok).2, hln] at H8
          rw [(tT_right hr).1, (tT_right hr).2] at H3 H4
          clear hok hr hbd hS hle
          generalize textO L = T at *
          have htt : (T != T) = false := by simp
          go_enter Tryd.func3, Tryd.ntmps3
          go_wp2_with fail
          with_reducible refine (HA.out _ HW0.out).mono ?_
          rintro e w1 ⟨rfl, q⟩
          have Q1 := Lib.hid q
          clear q
          go_wp2_with fail
          with_reducible refine (H1.out _ (HW.out _ Q1.out)).mono ?_
          rintro e w2 ⟨a2, c2, rfl, ho, q⟩
          have Q2 := Lib.hid (bthen Q1.out q)
          have A2 := Lib.hid ho.uk
          clear q ho Q1
          go_wp2_with fail
          with_reducible refine (H2.out _).mono ?_
          rintro e w3 ⟨a3, c3, rfl, ho, q⟩
          have Q3 := Lib.hid (bthen Q2.out q)
          have A3 := Lib.hid (A2.out.below q)
          have B3 := Lib.hid ho.uk
          clear q ho Q2 A2
          go_wp2_with fail
          with_reducible refine (H3.out _ Q3.out).mono ?_
          rintro e w4 ⟨rfl, q⟩
          have Q4 := Lib.hid (bthen Q3.out q)
          have A4 := Lib.hid (A3.out.below q)
          have B4 := Lib.hid (B3.out.below q)
          clear q Q3 A3 B3
          go_wp2_with fail
          with_reducible refine (H4.out _ Q4.out).mono ?_
          rintro e w5 ⟨rfl, rfl⟩
          go_wp2_with fail
          with_reducible refine (same_any A4.out B4.out (by omega) (by omega)).mono ?_
          rintro e w6 ⟨rfl, j, rfl⟩
          rw [eqN_self]
          have Q6 := Lib.hid (below_drewN Q4.out j)
          have A6 := Lib.hid (A4.out.below (below_drewN (Below.refl _ _) j))
          clear Q4 A4 B4
          go_wp2_with fail
          with_reducible refine (H5.out _ (HW.out _ Q6.out)).mono ?_
          rintro e w7 ⟨rfl, q⟩
          have Q7 := Lib.hid (bthen Q6.out q)
          have A7 := Lib.hid (A6.out.below q)
          clear q Q6 A6
          go_wp2_with fail
          with_reducible refine (H6.out _).mono ?_
          rintro e w8 ⟨rfl, q⟩
          have Q8 := Lib.hid (bthen Q7.out q)
          have A8 := Lib.hid (A7.out.below q)
          clear q Q7 A7
          go_wp2_with fail
          with_reducible refine (H8.out _ (HW.out _ Q8.out)).mono ?_
          rintro e w10 ⟨a10, c10, rfl, ho, q⟩
          have Q10 := Lib.hid (bthen Q8.out q)
          have A10 := Lib.hid ho.uk
          clear q ho Q8
          go_wp2_with fail
          with_reducible refine (same_any A10.out (HX.out.below Q10.out) (by omega) (by omega)).mono ?_
          rintro e w11 ⟨rfl, j, rfl⟩
          rw [eqN_self]
          have Q11 := Lib.hid (below_drewN Q10.out j)
          go_wp2_with fail
          go_ret
          exact ⟨rfl, Q11.out⟩
      · have hr1 := (arcs_some hp).1.1
        have hr2 := (arcs_some hp).2
        rw [(arc_some hp).1, (arc_some hp).2] at H1 H2
        rw [(arc_some hp).2, (tT_right hr1).1, (tT_right hr1).2, hr2] at H7
        rw [val_some hp] at H5 H6
        clear hp hm hr1 hr2
        rcases hr : rightO L with _ | _
        · rw [tC_wrong hr] at H3 H4
          clear hr hbd hS hle
          generalize tT L = T at *
          have htt : (T != T) = false := by simp
          go_enter Tryd.func3, Tryd.ntmps3
          go_wp2_with fail
          with_reducible refine (HA.out _ HW0.out).mono ?_
          rintro e w1 ⟨rfl, q⟩
          have Q1 := Lib.hid q
          clear q
          go_wp2_with fail
          with_reducible refine (H1.out _ (HW.out _ Q1.out)).mono ?_
          rintro e w2 ⟨a2, c2, rfl, ho, q⟩
          have Q2 := Lib.hid (bthen Q1.out q)
          have A2 := Lib.hid ho.uk
          clear q ho Q1
          go_wp2_with fail
          with_reducible refine (H2.out _).mono ?_
          rintro e w3 ⟨a3, c3, rfl, ho, q⟩
          have Q3 := Lib.hid (bthen Q2.out q)
          have A3 := Lib.hid (A2.out.below q)
          have B3 := Lib.hid ho.uk
          clear q ho Q2 A2
          go_wp2_with fail
          with_reducible refine (H3.out _ Q3.out).mono ?_
          rintro e w4 ⟨rfl, q⟩
          have Q4 := Lib.hid (bthen Q3.out q)
          have A4 := Lib.hid (A3.out.below q)
          have B4 := Lib.hid (B3.out.below q)
          clear q Q3 A3 B3
          go_wp2_with fail
          with_reducible refine (H4.out _ Q4.out).mono ?_
          rintro e w5 ⟨rfl, rfl⟩
          go_wp2_with fail
          with_reducible refine (same_any A4.out B4.out (by omega) (by omega)).mono ?_
          rintro e w6 ⟨rfl, j, rfl⟩
          rw [eqN_self]
          have Q6 := Lib.hid (below_drewN Q4.out j)
          have A6 := Lib.hid (A4.out.below (below_drewN (Below.refl _ _) j))
          clear Q4 A4 B4
          go_wp2_with fail
          with_reducible refine (H5.out _ (HW.out _ Q6.out)).mono ?_
          rintro e w7 ⟨rfl, q⟩
          have Q7 := Lib.hid (bthen Q6.out q)
          have A7 := Lib.hid (A6.out.below q)
          clear q Q6 A6
          go_wp2_with fail
          with_reducible refine (H6.out _).mono ?_
          rintro e w8 ⟨rfl, q⟩
          have Q8 := Lib.hid (bthen Q7.out q)
          have A8 := Lib.hid (A7.out.below q)
          clear q Q7 A7
          go_wp2_with fail
          with_reducible refine (H7.out _ (HW.out _ Q8.out) _ _ A8.out).mono ?_
          rintro e w9 ⟨rfl, q⟩
          have Q9 := Lib.hid (bthen Q8.out q)
          clear q Q8 A8
          go_wp2_with fail
          go_ret
          exact ⟨rfl, Q9.out⟩
        · have H8 := Lib.hid (fun w (h : Wd w) => arcs_any w h (textO L) (by omega))
          have hok := arcs_text ⟨hr, hbd⟩
          rw [(arc_some hok).1, (arc_some hok).2, hln] at H8
          rw [(tT_right hr).1, (tT_right hr).2] at H3 H4
          clear hok hr hbd hS hle
          generalize textO L = T at *
          have htt : (T != T) = false := by simp
          go_enter Tryd.func3, Tryd.ntmps3
          go_wp2_with fail
          with_reducible refine (HA.out _ HW0.out).mono ?_
          rintro e w1 ⟨rfl, q⟩
          have Q1 := Lib.hid q
          clear q
          go_wp2_with fail
          with_reducible refine (H1.out _ (HW.out _ Q1.out)).mono ?_
          rintro e w2 ⟨a2, c2, rfl, ho, q⟩
          have Q2 := Lib.hid (bthen Q1.out q)
          have A2 := Lib.hid ho.uk
          clear q ho Q1
          go_wp2_with fail
          with_reducible refine (H2.out _).mono ?_
          rintro e w3 ⟨a3, c3, rfl, ho, q⟩
          have Q3 := Lib.hid (bthen Q2.out q)
          have A3 := Lib.hid (A2.out.below q)
          have B3 := Lib.hid ho.uk
          clear q ho Q2 A2
          go_wp2_with fail
          with_reducible refine (H3.out _ Q3.out).mono ?_
          rintro e w4 ⟨rfl, q⟩
          have Q4 := Lib.hid (bthen Q3.out q)
          have A4 := Lib.hid (A3.out.below q)
          have B4 := Lib.hid (B3.out.below q)
          clear q Q3 A3 B3
          go_wp2_with fail
          with_reducible refine (H4.out _ Q4.out).mono ?_
          rintro e w5 ⟨rfl, rfl⟩
          go_wp2_with fail
          with_reducible refine (same_any A4.out B4.out (by omega) (by omega)).mono ?_
          rintro e w6 ⟨rfl, j, rfl⟩
          rw [eqN_self]
          have Q6 := Lib.hid (below_drewN Q4.out j)
          have A6 := Lib.hid (A4.out.below (below_drewN (Below.refl _ _) j))
          clear Q4 A4 B4
          go_wp2_with fail
          with_reducible refine (H5.out _ (HW.out _ Q6.out)).mono ?_
          rintro e w7 ⟨rfl, q⟩
          have Q7 := Lib.hid (bthen Q6.out q)
          have A7 := Lib.hid (A6.out.below q)
          clear q Q6 A6
          go_wp2_with fail
          with_reducible refine (H6.out _).mono ?_
          rintro e w8 ⟨rfl, q⟩
          have Q8 := Lib.hid (bthen Q7.out q)
          have A8 := Lib.hid (A7.out.below q)
          clear q Q7 A7
          go_wp2_with fail
          with_reducible refine (H7.out _ (HW.out _ Q8.out) _ _ A8.out).mono ?_
          rintro e w9 ⟨rfl, q⟩
          have Q9 := Lib.hid (bthen Q8.out q)
          clear q Q8 A8
          go_wp2_with fail
          with_reducible refine (H8.out _ (HW.out _ Q9.out)).mono ?_
          rintro e w10 ⟨a10, c10, rfl, ho, q⟩
          have Q10 := Lib.hid (bthen Q9.out q)
          have A10 := Lib.hid ho.uk
          clear q ho Q9
          go_wp2_with fail
          with_reducible refine (same_any A10.out (HX.out.below Q10.out) (by omega) (by omega)).mono ?_
          rintro e w11 ⟨rfl, j, rfl⟩
          rw [eqN_self]
          have Q11 := Lib.hid (below_drewN Q10.out j)
          go_wp2_with fail
          go_ret
          exact ⟨rfl, Q11.out⟩
    · have h2a : (60 : Int) < n := by omega
      have h2b : (n : Int) > 60 := by omega
      clear hS hx hbd
      go_enter Tryd.func3, Tryd.ntmps3
      go_wp2_with fail
      with_reducible refine (HA.out _ HW0.out).mono ?_
      rintro e w1 ⟨rfl, q⟩
      have Q1 := Lib.hid q
      clear q
      go_wp2_with fail
      with_reducible refine (HA.out _ (HW.out _ Q1.out)).mono ?_
      rintro e w2 ⟨rfl, q⟩
      have Q2 := Lib.hid (bthen Q1.out q)
      clear q Q1
      go_wp2_with fail
      go_ret
      exact ⟨rfl, Q2.out⟩
  · have h1a : (300 : Int) < S := by omega
    have h1b : (S : Int) > 300 := by omega
    clear hS hx hbd
    go_enter Tryd.func3, Tryd.ntmps3
    go_wp2_with fail
    with_reducible refine (HA.out _ HW0.out).mono ?_
    rintro e w1 ⟨rfl, q⟩
    have Q1 := Lib.hid q
    clear q
    go_wp2_with fail
    with_reducible refine (HA.out _ (HW.out _ Q1.out)).mono ?_
    rintro e w2 ⟨rfl, q⟩
    have Q2 := Lib.hid (bthen Q1.out q)
    clear q Q1
    go_wp2_with fail
    go_ret
    exact ⟨rfl, Q2.out⟩
end Go.Proofs.YtepicefbpadbhaaDoor.oidTexts
