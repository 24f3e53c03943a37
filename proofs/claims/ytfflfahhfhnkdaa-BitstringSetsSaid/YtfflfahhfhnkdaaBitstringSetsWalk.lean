/-
  The walk of the law BitstringSets.
-/
import Derived.Test.YtfflfahhfhnkdaaBitAwake
import Derived.Test.YtfflfahhfhnkdaaBitSame
import Derived.Test.YtfflfahhfhnkdaaBitDecNR
namespace Go.Proofs.Ytfflfahhfhnkdaa.bitstringSets
open Go.RowKit

theorem dn_code {l : List UInt8} {m : Int} (h : decNam l m = none) : dnC l m ≠ 0 := by
  by_cases hm : 1 ≤ m ∧ m ≤ 32
  · rw [(dn_none hm h).2]; decide
  · rw [(dn_out hm).2]; decide
theorem dn_back {l : List UInt8} {m : Int} {s : Nat} (h : decNam l m = some s) : dnN l m = s ∧ dnC l m = 0 ∧ enL s m = l ∧ enC s m = 0 ∧ s ≤ 4294967296 := by
  obtain ⟨_, hlt, h1, h2⟩ := decNam_some h
  obtain ⟨h3, h4⟩ := dn_some ⟨h1, h2⟩ h
  have hp : 2 ^ m.toNat ≤ 2 ^ 32 := Nat.pow_le_pow_right (by omega) (by omega)
  refine ⟨h3, h4, ?_, ?_, by omega⟩
  · unfold enL
    rw [encNam_dec h]
    rfl
  · unfold enC
    rw [encNam_dec h]
    rfl

set_option maxRecDepth 100000 in
set_option maxHeartbeats 4000000 in
theorem walk {w : World} {a : Option Addr} {n c : Nat} {l : List UInt8} {m s : Int} (b0 : Bs w a n c l) (_wm : (Lit.int .i64 m).wf = true) (ws : (Lit.int .i64 s).wf = true) :
    Calls Try.prog 7 #[.slice a n c, .int .i64 m, .int .i64 s] w fun e w' => e = .returned (.bool true) ∧ Below w.heap.size w w' := by
  have HA := Lib.hid (fun w => awakeBit_any w)
  have hs : s ≤ 9223372036854775807 := (bounds_i64 ws).2
  have hn := b0.len
  have hnm : (n : Int) ≤ 9223372036854775807 := by have := b0.2.1; have := b0.2.2.1; unfold maxLen at this; omega
  have Q0 := Lib.hid (Below.refl w.heap.size w)
  have X0 := Lib.hid (b0)
  clear b0 ws
  by_cases hz : n ≤ 2000
  · have hz2 : ¬ (2000 : Int) < n := by omega
    have H1 := Lib.hid (fun w a c (h : Bs w a n c l) => decn_any h (by omega) m)
    have H2 := Lib.hid (fun w a c (h : Bs w a n c l) => ref_decn_any h (by omega) m)
    have H3 := Lib.hid (fun w => members_any w s hs)
    have H4 := Lib.hid (fun w => ref_members_any w s hs)
    have H5 := Lib.hid (fun w a b c d (hx : Uk .i64 w a (memI s).length c (memI s)) (hy : Uk .i64 w b (memI s).length d (memI s)) => ints_self hx hy)
    have HB := Lib.hid (fun w a b c d (hx : Bs w a n c l) (hy : Bs w b n d l) => bytes_any hx hy)
    rw [eqB_self] at HB
    rcases hd : decNam l m with _ | x
    · have hC := dn_code hd
      generalize dnC l m = C at *
      generalize dnN l m = x at *
      have hC1 : ((C : Int) != 0) = true := by simp; omega
      have hC2 : ((C : Int) == 0) = false := by simp; omega
      clear hd hs hn hC
      generalize memI s = L at *
      go_enter Try.func7, Try.ntmps7
      go_wp2_with fail
      with_reducible refine (HA.out _).mono ?_
      rintro e w1 ⟨rfl, q⟩
      have Q1 := Lib.hid (bthen Q0.out q)
      have X1 := Lib.hid (X0.out.below q)
      clear q 
      go_wp2_with fail
      with_reducible refine (H1.out _ _ _ X1.out).mono ?_
      rintro e w2 ⟨rfl, q⟩
      have Q2 := Lib.hid (bthen Q1.out q)
      have X2 := Lib.hid (X1.out.below q)
      clear q 
      go_wp2_with fail
      with_reducible refine (H2.out _ _ _ X2.out).mono ?_
      rintro e w3 ⟨rfl, q⟩
      have Q3 := Lib.hid (bthen Q2.out q)
      have X3 := Lib.hid (X2.out.below q)
      clear q 
      go_wp2_with fail
      with_reducible refine (H3.out _).mono ?_
      rintro e w4 ⟨a4, c4, rfl, ho, q⟩
      have Q4 := Lib.hid (bthen Q3.out q)
      have X4 := Lib.hid (X3.out.below q)
      have M4 := Lib.hid (ho.uk)
      clear q ho
      go_wp2_with fail
      with_reducible refine (H4.out _).mono ?_
      rintro e w5 ⟨a5, c5, rfl, ho, q⟩
      have Q5 := Lib.hid (bthen Q4.out q)
      have X5 := Lib.hid (X4.out.below q)
      have M5 := Lib.hid (M4.out.below q)
      have R5 := Lib.hid (ho.uk)
      clear q ho
      go_wp2_with fail
      with_reducible refine (H5.out _ _ _ _ _ M5.out R5.out).mono ?_
      rintro e w6 ⟨rfl, q⟩
      have Q6 := Lib.hid (bthen Q5.out q)
      have X6 := Lib.hid (X5.out.below q)
      have M6 := Lib.hid (M5.out.below q)
      have R6 := Lib.hid (R5.out.below q)
      clear q 
      go_wp2_with fail
      with_reducible refine (H3.out _).mono ?_
      rintro e w7 ⟨a7, c7, rfl, ho, q⟩
      have Q7 := Lib.hid (bthen Q6.out q)
      have X7 := Lib.hid (X6.out.below q)
      have M7 := Lib.hid (ho.uk)
      clear q ho
      go_wp2_with fail
      with_reducible refine (H4.out _).mono ?_
      rintro e w8 ⟨a8, c8, rfl, ho, q⟩
      have Q8 := Lib.hid (bthen Q7.out q)
      have X8 := Lib.hid (X7.out.below q)
      have M8 := Lib.hid (M7.out.below q)
      have R8 := Lib.hid (ho.uk)
      clear q ho
      go_wp2_with fail
      with_reducible refine (H5.out _ _ _ _ _ M8.out R8.out).mono ?_
      rintro e w9 ⟨rfl, q⟩
      have Q9 := Lib.hid (bthen Q8.out q)
      have X9 := Lib.hid (X8.out.below q)
      have M9 := Lib.hid (M8.out.below q)
      have R9 := Lib.hid (R8.out.below q)
      clear q 
      go_wp2_with fail
      go_ret
      exact ⟨rfl, Q9.out⟩
    · obtain ⟨e1, e2, e3, e4, hx⟩ := dn_back hd
      rw [e1, e2] at H1 H2
      have H6 := Lib.hid (fun w => encn_any w (x : Int) m (by omega))
      rw [e3, e4, hn] at H6
      clear hd e1 e2 e3 e4 hx hs hn
      generalize memI s = L at *
      go_enter Try.func7, Try.ntmps7
      go_wp2_with fail
      with_reducible refine (HA.out _).mono ?_
      rintro e w1 ⟨rfl, q⟩
      have Q1 := Lib.hid (bthen Q0.out q)
      have X1 := Lib.hid (X0.out.below q)
      clear q 
      go_wp2_with fail
      with_reducible refine (H1.out _ _ _ X1.out).mono ?_
      rintro e w2 ⟨rfl, q⟩
      have Q2 := Lib.hid (bthen Q1.out q)
      have X2 := Lib.hid (X1.out.below q)
      clear q 
      go_wp2_with fail
      with_reducible refine (H2.out _ _ _ X2.out).mono ?_
      rintro e w3 ⟨rfl, q⟩
      have Q3 := Lib.hid (bthen Q2.out q)
      have X3 := Lib.hid (X2.out.below q)
      clear q 
      go_wp2_with fail
      with_reducible refine (H3.out _).mono ?_
      rintro e w4 ⟨a4, c4, rfl, ho, q⟩
      have Q4 := Lib.hid (bthen Q3.out q)
      have X4 := Lib.hid (X3.out.below q)
      have M4 := Lib.hid (ho.uk)
      clear q ho
      go_wp2_with fail
      with_reducible refine (H4.out _).mono ?_
      rintro e w5 ⟨a5, c5, rfl, ho, q⟩
      have Q5 := Lib.hid (bthen Q4.out q)
      have X5 := Lib.hid (X4.out.below q)
      have M5 := Lib.hid (M4.out.below q)
      have R5 := Lib.hid (ho.uk)
      clear q ho
      go_wp2_with fail
      with_reducible refine (H5.out _ _ _ _ _ M5.out R5.out).mono ?_
      rintro e w6 ⟨rfl, q⟩
      have Q6 := Lib.hid (bthen Q5.out q)
      have X6 := Lib.hid (X5.out.below q)
      have M6 := Lib.hid (M5.out.below q)
      have R6 := Lib.hid (R5.out.below q)
      clear q 
      go_wp2_with fail
      with_reducible refine (H6.out _).mono ?_
      rintro e w7 ⟨a7, c7, rfl, ho, q⟩
      have Q7 := Lib.hid (bthen Q6.out q)
      have X7 := Lib.hid (X6.out.below q)
      have M7 := Lib.hid (M6.out.below q)
      have R7 := Lib.hid (R6.out.below q)
      have E7 := Lib.hid (ho.bs)
      clear q ho
      go_wp2_with fail
      with_reducible refine (HB.out _ _ _ _ _ E7.out X7.out).mono ?_
      rintro e w' ⟨rfl, rfl⟩
      go_wp2_with fail
      go_ret
      exact ⟨rfl, Q7.out⟩
  · have hz2 : (2000 : Int) < n := by omega
    go_enter Try.func7, Try.ntmps7
    go_wp2_with fail
    with_reducible refine (HA.out _).mono ?_
    rintro e w1 ⟨rfl, q⟩
    have Q1 := Lib.hid (bthen Q0.out q)
    have X1 := Lib.hid (X0.out.below q)
    clear q 
    go_wp2_with fail
    with_reducible refine (HA.out _).mono ?_
    rintro e w2 ⟨rfl, q⟩
    have Q2 := Lib.hid (bthen Q1.out q)
    have X2 := Lib.hid (X1.out.below q)
    clear q 
    go_wp2_with fail
    go_ret
    exact ⟨rfl, Q2.out⟩
end Go.Proofs.Ytfflfahhfhnkdaa.bitstringSets
