/-
  The walk of the law TlvIdentifiers.
-/
import Derived.Test.YtepdgaokaneflaaAwakeTlv
import Derived.Test.YtepdgaokaneflaaTlvMath
namespace Go.Proofs.Ytepdgaokaneflaa.tlvIdentifiers
open Go.RowKit

theorem id_both (c n : Int) (k : Bool) : ∃ v z : Int, (∀ w, Calls Try.prog 11 #[.int .i64 c, .bool k, .int .i64 n] w fun e w' => e = .returned (.tuple #[.int .u8 v, .int .i64 z]) ∧ w = w') ∧
    (∀ w, Calls Try.prog 12 #[.int .i64 c, .bool k, .int .i64 n] w fun e w' => e = .returned (.tuple #[.int .u8 v, .int .i64 z]) ∧ w = w') := by
  by_cases h : c < 0 ∨ 3 < c ∨ n < 0 ∨ 30 < n
  · exact ⟨0, 9, fun w => identifier_bad h k w, fun w => ref_identifier_bad h k w⟩
  · obtain ⟨c', rfl⟩ : ∃ c' : Nat, c = c' := ⟨c.toNat, by omega⟩
    obtain ⟨n', rfl⟩ : ∃ n' : Nat, n = n' := ⟨n.toNat, by omega⟩
    exact ⟨_, 0, fun w => identifier_ok (by omega) (by omega) k w, fun w => ref_identifier_ok (by omega) (by omega) k w⟩

set_option maxRecDepth 100000 in
set_option maxHeartbeats 1000000 in
theorem walk {w : World} {c n v : Int} {k : Bool} (wv : (Lit.int .u8 v).wf = true) :
    Calls Try.prog 3 #[.agg #[.int .i64 c, .int .i64 n], .bool k, .int .u8 v] w fun e w' => e = .returned (.bool true) ∧ Below w.heap.size w w' := by
  have hv := bounds_u8 wv
  obtain ⟨x, rfl⟩ : ∃ x : UInt8, v = x.toNat := ⟨UInt8.ofNat v.toNat, by rw [UInt8.toNat_ofNat']; omega⟩
  clear hv wv
  have HA := Lib.hid (awakeTlv_any)
  obtain ⟨b, z, h1, h2⟩ := id_both c n k
  have H1 := Lib.hid h1
  have H2 := Lib.hid h2
  clear h1 h2
  by_cases hx : idOk x = true
  · have R1 := Lib.hid (fun w => readIdentifier_ok w hx)
    have R2 := Lib.hid (fun w => ref_readIdentifier_ok w hx)
    obtain ⟨g1, g2, g3⟩ := idByte_read hx
    have I1 := Lib.hid (fun w => identifier_ok g2 g3 (x.toNat / 32 % 2 == 1) w)
    rw [g1] at I1
    generalize x.toNat / 64 = p at *
    generalize x.toNat % 32 = q at *
    generalize (x.toNat / 32 % 2 == 1) = r at *
    clear g1 g2 g3 hx
    go_enter Try.func3, Try.ntmps3
    go_wp2_with fail
    refine (HA.out _).mono ?_
    rintro e w1 ⟨rfl, q1⟩
    have Z := (Blk.new w 22 #[.int .i64 c, .int .i64 n]).below q1 (by simp)
    have z0 := Z.cell 0
    have z1 := Z.cell 1
    have zl := Z.lt
    simp only [List.getElem?_toArray, List.getElem?_cons_zero, List.getElem?_cons_succ] at z0 z1
    have Q1 := Lib.hid (bthen (bal (Below.refl _ w) _) q1)
    clear Z q1
    go_wp2_with (first | (go_at_call 11; (first | (with_reducible refine (H1.out _).mono ?_) | (with_reducible refine (I1.out _).mono ?_)); rintro e w2 ⟨rfl, rfl⟩) | (go_at_call 12; go_must (refine (H2.out _).mono ?_); rintro e w2 ⟨rfl, rfl⟩) | (go_at_call 13; go_must (refine (R1.out _).mono ?_); rintro e w2 ⟨rfl, rfl⟩) | (go_at_call 14; go_must (refine (R2.out _).mono ?_); rintro e w2 ⟨rfl, rfl⟩))
    go_ret
    exact ⟨rfl, Q1.out⟩
  · have hx' : idOk x = false := by simpa using hx
    have R1 := Lib.hid (fun w => readIdentifier_bad w hx')
    have R2 := Lib.hid (fun w => ref_readIdentifier_bad w hx')
    clear hx hx'
    go_enter Try.func3, Try.ntmps3
    go_wp2_with fail
    refine (HA.out _).mono ?_
    rintro e w1 ⟨rfl, q1⟩
    have Z := (Blk.new w 22 #[.int .i64 c, .int .i64 n]).below q1 (by simp)
    have z0 := Z.cell 0
    have z1 := Z.cell 1
    have zl := Z.lt
    simp only [List.getElem?_toArray, List.getElem?_cons_zero, List.getElem?_cons_succ] at z0 z1
    have Q1 := Lib.hid (bthen (bal (Below.refl _ w) _) q1)
    clear Z q1
    go_wp2_with (first | (go_at_call 11; go_must (refine (H1.out _).mono ?_); rintro e w2 ⟨rfl, rfl⟩) | (go_at_call 12; go_must (refine (H2.out _).mono ?_); rintro e w2 ⟨rfl, rfl⟩) | (go_at_call 13; go_must (refine (R1.out _).mono ?_); rintro e w2 ⟨rfl, rfl⟩) | (go_at_call 14; go_must (refine (R2.out _).mono ?_); rintro e w2 ⟨rfl, rfl⟩))
    go_ret
    exact ⟨rfl, Q1.out⟩
end Go.Proofs.Ytepdgaokaneflaa.tlvIdentifiers
