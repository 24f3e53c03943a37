/-
  The walk of the law IntegerReads.
-/
import Derived.Test.YtammegdfjgphkaaDoorIntAwake
namespace Go.Proofs.YtammegdfjgphkaaDoor.integerReads
open Go.RowKit

set_option maxRecDepth 100000 in
set_option maxHeartbeats 2000000 in
theorem walk {w : World} {a : Option Addr} {n c : Nat} {l : List UInt8} (b0 : Bs w a n c l) :
    Calls Tryd.prog 4 #[.slice a n c] w fun e w' => e = .returned (.bool true) ∧ Below w.heap.size w w' := by
  have HA := Lib.hid (awakeInt_any)
  have HX := Lib.hid b0
  clear b0
  by_cases hs : n ≤ 2000
  · have hs' : ¬ (2000 : Int) < n := by omega
    have H1 := Lib.hid (fun w (h : Bs w a n c l) => int_any h)
    have H2 := Lib.hid (fun w (h : Bs w a n c l) => ref_int_any h)
    have H3 := Lib.hid (fun w (h : Bs w a n c l) => unsigned_any h (by omega))
    have H4 := Lib.hid (fun w (h : Bs w a n c l) => ref_unsigned_any h)
    have H5 := Lib.hid (fun w (h : Bs w a n c l) => valid_any h)
    have H6 := Lib.hid (fun w (h : Bs w a n c l) => ref_valid_any h)
    have H7 := Lib.hid (fun w (h : Bs w a n c l) => sign_any h)
    have H8 := Lib.hid (fun w (h : Bs w a n c l) => ref_sign_any h)
    generalize intV l = v1 at *
    generalize intB l = v2 at *
    generalize uL l = v3 at *
    generalize uC l = v4 at *
    generalize vI l = v5 at *
    generalize sgI l = v6 at *
    go_enter Tryd.func4, Tryd.ntmps4
    go_wp2_with fail
    with_reducible refine (HA.out _).mono ?_
    rintro e w1 ⟨rfl, q1⟩
    have X1 := Lib.hid (HX.out.below q1)
    go_wp2_with fail
    with_reducible refine (H1.out _ X1.out).mono ?_
    rintro e w2 ⟨rfl, rfl⟩
    go_wp2_with fail
    with_reducible refine (H2.out _ X1.out).mono ?_
    rintro e w3 ⟨rfl, rfl⟩
    go_wp2_with fail
    with_reducible refine (H3.out _ X1.out).mono ?_
    rintro e w4 ⟨a4, c4, rfl, hb4, _, q⟩
    have Q4 := Lib.hid (bthen q1 q)
    have X4 := Lib.hid (X1.out.below q)
    clear q q1 X1
    go_wp2_with fail
    with_reducible refine (H4.out _ X4.out).mono ?_
    rintro e w5 ⟨⟨a5, c5, rfl, hb5⟩, rfl⟩
    go_wp2_with fail
    with_reducible refine (H5.out _ X4.out).mono ?_
    rintro e w6 ⟨rfl, rfl⟩
    go_wp2_with fail
    with_reducible refine (H6.out _ X4.out).mono ?_
    rintro e w6 ⟨rfl, rfl⟩
    go_wp2_with fail
    with_reducible refine (H7.out _ X4.out).mono ?_
    rintro e w6 ⟨rfl, rfl⟩
    go_wp2_with fail
    with_reducible refine (H8.out _ X4.out).mono ?_
    rintro e w6 ⟨rfl, rfl⟩
    go_wp2_with fail
    with_reducible refine (bytes_any hb4 hb5).mono ?_
    rintro e w6 ⟨rfl, rfl⟩
    rw [eqB_self]
    go_wp2_with fail
    go_ret
    exact ⟨rfl, Q4.out⟩
  · have hs' : (2000 : Int) < n := by omega
    go_enter Tryd.func4, Tryd.ntmps4
    go_wp2_with fail
    with_reducible refine (HA.out _).mono ?_
    rintro e w1 ⟨rfl, q1⟩
    go_wp2_with fail
    with_reducible refine (HA.out _).mono ?_
    rintro e w2 ⟨rfl, q2⟩
    go_wp2_with fail
    go_ret
    exact ⟨rfl, bthen q1 q2⟩
end Go.Proofs.YtammegdfjgphkaaDoor.integerReads
