/-
  Contract of the reference's digits.
-/
import Derived.Test.YtneeddbonhiflaaDoorClDays
import Derived.Test.YtneeddbonhiflaaDoorStr
import Derived.Deep.QuietTactic
namespace Go.Proofs.YtneeddbonhiflaaDoor
open Go.RowKit

def dgB (n : Int) : UInt8 := UInt8.ofNat (48 + (n % 10).toNat)
/-- the last digits of a number -/
def digO (n : Int) : Nat → List UInt8
  | 0 => []
  | c + 1 => digO (n / 10) c ++ [dgB n]
theorem digO_len (n : Int) : ∀ c : Nat, (digO n c).length = c := by
  intro c
  induction c generalizing n with
  | zero => rfl
  | succ c ih => show (digO (n / 10) c ++ [dgB n]).length = _; rw [List.length_append, ih]; rfl
theorem quiet_drew' {P : Program} {f : FuncId} {args : Array Value} {w : World} {n : Nat} {v : Value}
    (h : Calls P f args (w.drewN n) fun e w' => e = .returned v ∧ ∃ k, w' = (w.drewN n).drewN k) : Calls P f args (w.drewN n) fun e w'' => e = .returned v ∧ ∃ m, w'' = w.drewN m :=
  h.mono fun _ _ ⟨he, k, hm⟩ => ⟨he, n + k, by rw [hm, World.drewN_drewN]⟩
theorem quiet_drew_add' {P : Program} {f : FuncId} {args : Array Value} {w : World} {a n : Nat} {v : Value}
    (h : Calls P f args (w.drewN (a + n)) fun e w' => e = .returned v ∧ ∃ k, w' = (w.drewN (a + n)).drewN k) : Calls P f args (w.drewN (a + n)) fun e w'' => e = .returned v ∧ ∃ m, w'' = w.drewN (a + m) :=
  h.mono fun _ _ ⟨he, k, hm⟩ => ⟨he, n + k, by rw [hm, World.drewN_drewN, Nat.add_assoc]⟩

set_option maxRecDepth 100000 in
set_option maxHeartbeats 1000000 in
theorem dig_0 (c q : Int) (n : Int) (A : ByteArray) (h0 : 0 ≤ n) (h1 : n ≤ 1000000) (hc0 : 0 ≤ c) (hc : c ≤ 8) (hq : n / 10 = q) (hn : n % 10 = 0) (hA : A.size ≤ 8) (w : World)
    (H0 : ∀ w, Calls Tryd.prog 28 #[.int .i64 q, .int .i64 c] w fun e w' => e = .returned (.string A) ∧ ∃ k, w' = w.drewN k) :
    Calls Tryd.prog 28 #[.int .i64 n, .int .i64 (c + 1)] w fun e w' => e = .returned (.string (A ++ ⟨#[48]⟩)) ∧ ∃ k, w' = w.drewN k := by
  have H := Lib.hid H0
  clear H0
  have r1 : n.tmod 10 = 0 := by rw [Int.tmod_eq_emod_of_nonneg h0]; exact hn
  have r2 : n.tdiv 10 = q := by rw [Int.tdiv_eq_ediv_of_nonneg h0]; exact hq
  have hcz : (c + 1 == 0) = false := by rw [beq_eq_false_iff_ne]; omega
  have w2 : IntKind.i64.wrap (c + 1 - 1) = c := by rw [IntKind.wrap_i64]; omega
  have w6 : IntKind.i64.wrap c = c := by rw [IntKind.wrap_i64]; omega
  have w3 : IntKind.i64.wrap q = q := by rw [IntKind.wrap_i64]; omega
  have w4 : IntKind.i64.wrap 0 = 0 := by decide
  have w5 : IntKind.i64.wrap 1 = 1 := by decide
  have hcut : (⟨#[48, 49, 50, 51, 52, 53, 54, 55, 56, 57]⟩ : ByteArray).extract 0 1 = ⟨#[48]⟩ := by decide +kernel
  have hz : ¬ 9223372036854775807 < A.size + 1 := by omega
  have hsz : (⟨#[48, 49, 50, 51, 52, 53, 54, 55, 56, 57]⟩ : ByteArray).size = 10 := rfl
  go_enter Tryd.func28, Tryd.ntmps28
  go_wp2_with fail
  go_quiet ((go_at_call 28; first | with_reducible exact quiet_drew' (H.out _) | with_reducible exact quiet_drew_add' (H.out _)))
  go_wp2_with fail
  go_ret
  exact ⟨rfl, _, rfl⟩

set_option maxRecDepth 100000 in
set_option maxHeartbeats 1000000 in
theorem dig_1 (c q : Int) (n : Int) (A : ByteArray) (h0 : 0 ≤ n) (h1 : n ≤ 1000000) (hc0 : 0 ≤ c) (hc : c ≤ 8) (hq : n / 10 = q) (hn : n % 10 = 1) (hA : A.size ≤ 8) (w : World)
    (H0 : ∀ w, Calls Tryd.prog 28 #[.int .i64 q, .int .i64 c] w fun e w' => e = .returned (.string A) ∧ ∃ k, w' = w.drewN k) :
    Calls Tryd.prog 28 #[.int .i64 n, .int .i64 (c + 1)] w fun e w' => e = .returned (.string (A ++ ⟨#[49]⟩)) ∧ ∃ k, w' = w.drewN k := by
  have H := Lib.hid H0
  clear H0
  have r1 : n.tmod 10 = 1 := by rw [Int.tmod_eq_emod_of_nonneg h0]; exact hn
  have r2 : n.tdiv 10 = q := by rw [Int.tdiv_eq_ediv_of_nonneg h0]; exact hq
  have hcz : (c + 1 == 0) = false := by rw [beq_eq_false_iff_ne]; omega
  have w2 : IntKind.i64.wrap (c + 1 - 1) = c := by rw [IntKind.wrap_i64]; omega
  have w6 : IntKind.i64.wrap c = c := by rw [IntKind.wrap_i64]; omega
  have w3 : IntKind.i64.wrap q = q := by rw [IntKind.wrap_i64]; omega
  have w4 : IntKind.i64.wrap 1 = 1 := by decide
  have w5 : IntKind.i64.wrap 2 = 2 := by decide
  have hcut : (⟨#[48, 49, 50, 51, 52, 53, 54, 55, 56, 57]⟩ : ByteArray).extract 1 2 = ⟨#[49]⟩ := by decide +kernel
  have hz : ¬ 9223372036854775807 < A.size + 1 := by omega
  have hsz : (⟨#[48, 49, 50, 51, 52, 53, 54, 55, 56, 57]⟩ : ByteArray).size = 10 := rfl
  go_enter Tryd.func28, Tryd.ntmps28
  go_wp2_with fail
  go_quiet ((go_at_call 28; first | with_reducible exact quiet_drew' (H.out _) | with_reducible exact quiet_drew_add' (H.out _)))
  go_wp2_with fail
  go_ret
  exact ⟨rfl, _, rfl⟩

set_option maxRecDepth 100000 in
set_option maxHeartbeats 1000000 in
theorem dig_2 (c q : Int) (n : Int) (A : ByteArray) (h0 : 0 ≤ n) (h1 : n ≤ 1000000) (hc0 : 0 ≤ c) (hc : c ≤ 8) (hq : n / 10 = q) (hn : n % 10 = 2) (hA : A.size ≤ 8) (w : World)
    (H0 : ∀ w, Calls Tryd.prog 28 #[.int .i64 q, .int .i64 c] w fun e w' => e = .returned (.string A) ∧ ∃ k, w' = w.drewN k) :
    Calls Tryd.prog 28 #[.int .i64 n, .int .i64 (c + 1)] w fun e w' => e = .returned (.string (A ++ ⟨#[50]⟩)) ∧ ∃ k, w' = w.drewN k := by
  have H := Lib.hid H0
  clear H0
  have r1 : n.tmod 10 = 2 := by rw [Int.tmod_eq_emod_of_nonneg h0]; exact hn
  have r2 : n.tdiv 10 = q := by rw [Int.tdiv_eq_ediv_of_nonneg h0]; exact hq
  have hcz : (c + 1 == 0) = false := by rw [beq_eq_false_iff_ne]; omega
  have w2 : IntKind.i64.wrap (c + 1 - 1) = c := by rw [IntKind.wrap_i64]; omega
  have w6 : IntKind.i64.wrap c = c := by rw [IntKind.wrap_i64]; omega
  have w3 : IntKind.i64.wrap q = q := by rw [IntKind.wrap_i64]; omega
  have w4 : IntKind.i64.wrap 2 = 2 := by decide
  have w5 : IntKind.i64.wrap 3 = 3 := by decide
  have hcut : (⟨#[48, 49, 50, 51, 52, 53, 54, 55, 56, 57]⟩ : ByteArray).extract 2 3 = ⟨#[50]⟩ := by decide +kernel
  have hz : ¬ 9223372036854775807 < A.size + 1 := by omega
  have hsz : (⟨#[48, 49, 50, 51, 52, 53, 54, 55, 56, 57]⟩ : ByteArray).size = 10 := rfl
  go_enter Tryd.func28, Tryd.ntmps28
  go_wp2_with fail
  go_quiet ((go_at_call 28; first | with_reducible exact quiet_drew' (H.out _) | with_reducible exact quiet_drew_add' (H.out _)))
  go_wp2_with fail
  go_ret
  exact ⟨rfl, _, rfl⟩

set_option maxRecDepth 100000 in
set_option maxHeartbeats 1000000 in
theorem dig_3 (c q : Int) (n : Int) (A : ByteArray) (h0 : 0 ≤ n) (h1 : n ≤ 1000000) (hc0 : 0 ≤ c) (hc : c ≤ 8) (hq : n / 10 = q) (hn : n % 10 = 3) (hA : A.size ≤ 8) (w : World)
    (H0 : ∀ w, Calls Tryd.prog 28 #[.int .i64 q, .int .i64 c] w fun e w' => e = .returned (.string A) ∧ ∃ k, w' = w.drewN k) :
    Calls Tryd.prog 28 #[.int .i64 n, .int .i64 (c + 1)] w fun e w' => e = .returned (.string (A ++ ⟨#[51]⟩)) ∧ ∃ k, w' = w.drewN k := by
  have H := Lib.hid H0
  clear H0
  have r1 : n.tmod 10 = 3 := by rw [Int.tmod_eq_emod_of_nonneg h0]; exact hn
  have r2 : n.tdiv 10 = q := by rw [Int.tdiv_eq_ediv_of_nonneg h0]; exact hq
  have hcz : (c + 1 == 0) = false := by rw [beq_eq_false_iff_ne]; omega
  have w2 : IntKind.i64.wrap (c + 1 - 1) = c := by rw [IntKind.wrap_i64]; omega
  have w6 : IntKind.i64.wrap c = c := by rw [IntKind.wrap_i64]; omega
  have w3 : IntKind.i64.wrap q = q := by rw [IntKind.wrap_i64]; omega
  have w4 : IntKind.i64.wrap 3 = 3 := by decide
  have w5 : IntKind.i64.wrap 4 = 4 := by decide
  have hcut : (⟨#[48, 49, 50, 51, 52, 53, 54, 55, 56, 57]⟩ : ByteArray).extract 3 4 = ⟨#[51]⟩ := by decide +kernel
  have hz : ¬ 9223372036854775807 < A.size + 1 := by omega
  have hsz : (⟨#[48, 49, 50, 51, 52, 53, 54, 55, 56, 57]⟩ : ByteArray).size = 10 := rfl
  go_enter Tryd.func28, Tryd.ntmps28
  go_wp2_with fail
  go_quiet ((go_at_call 28; first | with_reducible exact quiet_drew' (H.out _) | with_reducible exact quiet_drew_add' (H.out _)))
  go_wp2_with fail
  go_ret
  exact ⟨rfl, _, rfl⟩

set_option maxRecDepth 100000 in
set_option maxHeartbeats 1000000 in
theorem dig_4 (c q : Int) (n : Int) (A : ByteArray) (h0 : 0 ≤ n) (h1 : n ≤ 1000000) (hc0 : 0 ≤ c) (hc : c ≤ 8) (hq : n / 10 = q) (hn : n % 10 = 4) (hA : A.size ≤ 8) (w : World)
    (H0 : ∀ w, Calls Tryd.prog 28 #[.int .i64 q, .int .i64 c] w fun e w' => e = .returned (.string A) ∧ ∃ k, w' = w.drewN k) :
    Calls Tryd.prog 28 #[.int .i64 n, .int .i64 (c + 1)] w fun e w' => e = .returned (.string (A ++ ⟨#[52]⟩)) ∧ ∃ k, w' = w.drewN k := by
  have H := Lib.hid H0
  clear H0
  have r1 : n.tmod 10 = 4 := by rw [Int.tmod_eq_emod_of_nonneg h0]; exact hn
  have r2 : n.tdiv 10 = q := by rw [Int.tdiv_eq_ediv_of_nonneg h0]; exact hq
  have hcz : (c + 1 == 0) = false := by rw [beq_eq_false_iff_ne]; omega
  have w2 : IntKind.i64.wrap (c + 1 - 1) = c := by rw [IntKind.wrap_i64]; omega
  have w6 : IntKind.i64.wrap c = c := by rw [IntKind.wrap_i64]; omega
  have w3 : IntKind.i64.wrap q = q := by rw [IntKind.wrap_i64]; omega
  have w4 : IntKind.i64.wrap 4 = 4 := by decide
  have w5 : IntKind.i64.wrap 5 = 5 := by decide
  have hcut : (⟨#[48, 49, 50, 51, 52, 53, 54, 55, 56, 57]⟩ : ByteArray).extract 4 5 = ⟨#[52]⟩ := by decide +kernel
  have hz : ¬ 9223372036854775807 < A.size + 1 := by omega
  have hsz : (⟨#[48, 49, 50, 51, 52, 53, 54, 55, 56, 57]⟩ : ByteArray).size = 10 := rfl
  go_enter Tryd.func28, Tryd.ntmps28
  go_wp2_with fail
  go_quiet ((go_at_call 28; first | with_reducible exact quiet_drew' (H.out _) | with_reducible exact quiet_drew_add' (H.out _)))
  go_wp2_with fail
  go_ret
  exact ⟨rfl, _, rfl⟩

set_option maxRecDepth 100000 in
set_option maxHeartbeats 1000000 in
theorem dig_5 (c q : Int) (n : Int) (A : ByteArray) (h0 : 0 ≤ n) (h1 : n ≤ 1000000) (hc0 : 0 ≤ c) (hc : c ≤ 8) (hq : n / 10 = q) (hn : n % 10 = 5) (hA : A.size ≤ 8) (w : World)
    (H0 : ∀ w, Calls Tryd.prog 28 #[.int .i64 q, .int .i64 c] w fun e w' => e = .returned (.string A) ∧ ∃ k, w' = w.drewN k) :
    Calls Tryd.prog 28 #[.int .i64 n, .int .i64 (c + 1)] w fun e w' => e = .returned (.string (A ++ ⟨#[53]⟩)) ∧ ∃ k, w' = w.drewN k := by
  have H := Lib.hid H0
  clear H0
  have r1 : n.tmod 10 = 5 := by rw [Int.tmod_eq_emod_of_nonneg h0]; exact hn
  have r2 : n.tdiv 10 = q := by rw [Int.tdiv_eq_ediv_of_nonneg h0]; exact hq
  have hcz : (c + 1 == 0) = false := by rw [beq_eq_false_iff_ne]; omega
  have w2 : IntKind.i64.wrap (c + 1 - 1) = c := by rw [IntKind.wrap_i64]; omega
  have w6 : IntKind.i64.wrap c = c := by rw [IntKind.wrap_i64]; omega
  have w3 : IntKind.i64.wrap q = q := by rw [IntKind.wrap_i64]; omega
  have w4 : IntKind.i64.wrap 5 = 5 := by decide
  have w5 : IntKind.i64.wrap 6 = 6 := by decide
  have hcut : (⟨#[48, 49, 50, 51, 52, 53, 54, 55, 56, 57]⟩ : ByteArray).extract 5 6 = ⟨#[53]⟩ := by decide +kernel
  have hz : ¬ 9223372036854775807 < A.size + 1 := by omega
  have hsz : (⟨#[48, 49, 50, 51, 52, 53, 54, 55, 56, 57]⟩ : ByteArray).size = 10 := rfl
  go_enter Tryd.func28, Tryd.ntmps28
  go_wp2_with fail
  go_quiet ((go_at_call 28; first | with_reducible exact quiet_drew' (H.out _) | with_reducible exact quiet_drew_add' (H.out _)))
  go_wp2_with fail
  go_ret
  exact ⟨rfl, _, rfl⟩

set_option maxRecDepth 100000 in
set_option maxHeartbeats 1000000 in
theorem dig_6 (c q : Int) (n : Int) (A : ByteArray) (h0 : 0 ≤ n) (h1 : n ≤ 1000000) (hc0 : 0 ≤ c) (hc : c ≤ 8) (hq : n / 10 = q) (hn : n % 10 = 6) (hA : A.size ≤ 8) (w : World)
    (H0 : ∀ w, Calls Tryd.prog 28 #[.int .i64 q, .int .i64 c] w fun e w' => e = .returned (.string A) ∧ ∃ k, w' = w.drewN k) :
    Calls Tryd.prog 28 #[.int .i64 n, .int .i64 (c + 1)] w fun e w' => e = .returned (.string (A ++ ⟨#[54]⟩)) ∧ ∃ k, w' = w.drewN k := by
  have H := Lib.hid H0
  clear H0
  have r1 : n.tmod 10 = 6 := by rw [Int.tmod_eq_emod_of_nonneg h0]; exact hn
  have r2 : n.tdiv 10 = q := by rw [Int.tdiv_eq_ediv_of_nonneg h0]; exact hq
  have hcz : (c + 1 == 0) = false := by rw [beq_eq_false_iff_ne]; omega
  have w2 : IntKind.i64.wrap (c + 1 - 1) = c := by rw [IntKind.wrap_i64]; omega
  have w6 : IntKind.i64.wrap c = c := by rw [IntKind.wrap_i64]; omega
  have w3 : IntKind.i64.wrap q = q := by rw [IntKind.wrap_i64]; omega
  have w4 : IntKind.i64.wrap 6 = 6 := by decide
  have w5 : IntKind.i64.wrap 7 = 7 := by decide
  have hcut : (⟨#[48, 49, 50, 51, 52, 53, 54, 55, 56, 57]⟩ : ByteArray).extract 6 7 = ⟨#[54]⟩ := by decide +kernel
  have hz : ¬ 9223372036854775807 < A.size + 1 := by omega
  have hsz : (⟨#[48, 49, 50, 51, 52, 53, 54, 55, 56, 57]⟩ : ByteArray).size = 10 := rfl
  go_enter Tryd.func28, Tryd.ntmps28
  go_wp2_with fail
  go_quiet ((go_at_call 28; first | with_reducible exact quiet_drew' (H.out _) | with_reducible exact quiet_drew_add' (H.out _)))
  go_wp2_with fail
  go_ret
  exact ⟨rfl, _, rfl⟩

set_option maxRecDepth 100000 in
set_option maxHeartbeats 1000000 in
theorem dig_7 (c q : Int) (n : Int) (A : ByteArray) (h0 : 0 ≤ n) (h1 : n ≤ 1000000) (hc0 : 0 ≤ c) (hc : c ≤ 8) (hq : n / 10 = q) (hn : n % 10 = 7) (hA : A.size ≤ 8) (w : World)
    (H0 : ∀ w, Calls Tryd.prog 28 #[.int .i64 q, .int .i64 c] w fun e w' => e = .returned (.string A) ∧ ∃ k, w' = w.drewN k) :
    Calls Tryd.prog 28 #[.int .i64 n, .int .i64 (c + 1)] w fun e w' => e = .returned (.string (A ++ ⟨#[55]⟩)) ∧ ∃ k, w' = w.drewN k := by
  have H := Lib.hid H0
  clear H0
  have r1 : n.tmod 10 = 7 := by rw [Int.tmod_eq_emod_of_nonneg h0]; exact hn
  have r2 : n.tdiv 10 = q := by rw [Int.tdiv_eq_ediv_of_nonneg h0]; exact hq
  have hcz : (c + 1 == 0) = false := by rw [beq_eq_false_iff_ne]; omega
  have w2 : IntKind.i64.wrap (c + 1 - 1) = c := by rw [IntKind.wrap_i64]; omega
  have w6 : IntKind.i64.wrap c = c := by rw [IntKind.wrap_i64]; omega
  have w3 : IntKind.i64.wrap q = q := by rw [IntKind.wrap_i64]; omega
  have w4 : IntKind.i64.wrap 7 = 7 := by decide
  have w5 : IntKind.i64.wrap 8 = 8 := by decide
  have hcut : (⟨#[48, 49, 50, 51, 52, 53, 54, 55, 56, 57]⟩ : ByteArray).extract 7 8 = ⟨#[55]⟩ := by decide +kernel
  have hz : ¬ 9223372036854775807 < A.size + 1 := by omega
  have hsz : (⟨#[48, 49, 50, 51, 52, 53, 54, 55, 56, 57]⟩ : ByteArray).size = 10 := rfl
  go_enter Tryd.func28, Tryd.ntmps28
  go_wp2_with fail
  go_quiet ((go_at_call 28; first | with_reducible exact quiet_drew' (H.out _) | with_reducible exact quiet_drew_add' (H.out _)))
  go_wp2_with fail
  go_ret
  exact ⟨rfl, _, rfl⟩

set_option maxRecDepth 100000 in
set_option maxHeartbeats 1000000 in
theorem dig_8 (c q : Int) (n : Int) (A : ByteArray) (h0 : 0 ≤ n) (h1 : n ≤ 1000000) (hc0 : 0 ≤ c) (hc : c ≤ 8) (hq : n / 10 = q) (hn : n % 10 = 8) (hA : A.size ≤ 8) (w : World)
    (H0 : ∀ w, Calls Tryd.prog 28 #[.int .i64 q, .int .i64 c] w fun e w' => e = .returned (.string A) ∧ ∃ k, w' = w.drewN k) :
    Calls Tryd.prog 28 #[.int .i64 n, .int .i64 (c + 1)] w fun e w' => e = .returned (.string (A ++ ⟨#[56]⟩)) ∧ ∃ k, w' = w.drewN k := by
  have H := Lib.hid H0
  clear H0
  have r1 : n.tmod 10 = 8 := by rw [Int.tmod_eq_emod_of_nonneg h0]; exact hn
  have r2 : n.tdiv 10 = q := by rw [Int.tdiv_eq_ediv_of_nonneg h0]; exact hq
  have hcz : (c + 1 == 0) = false := by rw [beq_eq_false_iff_ne]; omega
  have w2 : IntKind.i64.wrap (c + 1 - 1) = c := by rw [IntKind.wrap_i64]; omega
  have w6 : IntKind.i64.wrap c = c := by rw [IntKind.wrap_i64]; omega
  have w3 : IntKind.i64.wrap q = q := by rw [IntKind.wrap_i64]; omega
  have w4 : IntKind.i64.wrap 8 = 8 := by decide
  have w5 : IntKind.i64.wrap 9 = 9 := by decide
  have hcut : (⟨#[48, 49, 50, 51, 52, 53, 54, 55, 56, 57]⟩ : ByteArray).extract 8 9 = ⟨#[56]⟩ := by decide +kernel
  have hz : ¬ 9223372036854775807 < A.size + 1 := by omega
  have hsz : (⟨#[48, 49, 50, 51, 52, 53, 54, 55, 56, 57]⟩ : ByteArray).size = 10 := rfl
  go_enter Tryd.func28, Tryd.ntmps28
  go_wp2_with fail
  go_quiet ((go_at_call 28; first | with_reducible exact quiet_drew' (H.out _) | with_reducible exact quiet_drew_add' (H.out _)))
  go_wp2_with fail
  go_ret
  exact ⟨rfl, _, rfl⟩

set_option maxRecDepth 100000 in
set_option maxHeartbeats 1000000 in
theorem dig_9 (c q : Int) (n : Int) (A : ByteArray) (h0 : 0 ≤ n) (h1 : n ≤ 1000000) (hc0 : 0 ≤ c) (hc : c ≤ 8) (hq : n / 10 = q) (hn : n % 10 = 9) (hA : A.size ≤ 8) (w : World)
    (H0 : ∀ w, Calls Tryd.prog 28 #[.int .i64 q, .int .i64 c] w fun e w' => e = .returned (.string A) ∧ ∃ k, w' = w.drewN k) :
    Calls Tryd.prog 28 #[.int .i64 n, .int .i64 (c + 1)] w fun e w' => e = .returned (.string (A ++ ⟨#[57]⟩)) ∧ ∃ k, w' = w.drewN k := by
  have H := Lib.hid H0
  clear H0
  have r1 : n.tmod 10 = 9 := by rw [Int.tmod_eq_emod_of_nonneg h0]; exact hn
  have r2 : n.tdiv 10 = q := by rw [Int.tdiv_eq_ediv_of_nonneg h0]; exact hq
  have hcz : (c + 1 == 0) = false := by rw [beq_eq_false_iff_ne]; omega
  have w2 : IntKind.i64.wrap (c + 1 - 1) = c := by rw [IntKind.wrap_i64]; omega
  have w6 : IntKind.i64.wrap c = c := by rw [IntKind.wrap_i64]; omega
  have w3 : IntKind.i64.wrap q = q := by rw [IntKind.wrap_i64]; omega
  have w4 : IntKind.i64.wrap 9 = 9 := by decide
  have w5 : IntKind.i64.wrap 10 = 10 := by decide
  have hcut : (⟨#[48, 49, 50, 51, 52, 53, 54, 55, 56, 57]⟩ : ByteArray).extract 9 10 = ⟨#[57]⟩ := by decide +kernel
  have hz : ¬ 9223372036854775807 < A.size + 1 := by omega
  have hsz : (⟨#[48, 49, 50, 51, 52, 53, 54, 55, 56, 57]⟩ : ByteArray).size = 10 := rfl
  go_enter Tryd.func28, Tryd.ntmps28
  go_wp2_with fail
  go_quiet ((go_at_call 28; first | with_reducible exact quiet_drew' (H.out _) | with_reducible exact quiet_drew_add' (H.out _)))
  go_wp2_with fail
  go_ret
  exact ⟨rfl, _, rfl⟩

theorem digits_any : ∀ (c : Nat) (n : Int) (w : World), 0 ≤ n → n ≤ 1000000 → c ≤ 8 →
    Calls Tryd.prog 28 #[.int .i64 n, .int .i64 c] w fun e w' => e = .returned (.string ⟨(digO n c).toArray⟩) ∧ ∃ k, w' = w.drewN k
  | 0, n, w, _, _, _ => by
    show Calls Tryd.prog 28 #[.int .i64 n, .int .i64 0] w fun e w' => e = .returned (.string ⟨#[]⟩) ∧ ∃ k, w' = w.drewN k
    go_enter Tryd.func28, Tryd.ntmps28
    go_wp2_with fail
    go_ret
    exact ⟨rfl, 0, rfl⟩
  | c + 1, n, w, h0, h1, hc => by
    have H := fun w => digits_any c (n / 10) w (by omega) (by omega) (by omega)
    have hJ : (⟨(digO (n / 10) c).toArray⟩ : ByteArray) ++ ⟨#[dgB n]⟩ = ⟨(digO n (c + 1)).toArray⟩ := by
      show (⟨(digO (n / 10) c).toArray⟩ : ByteArray) ++ (⟨[dgB n].toArray⟩ : ByteArray) = _
      rw [str_join]
      rfl
    have hcc : (((c + 1 : Nat) : Int)) = (c : Int) + 1 := by omega
    rw [hcc, ← hJ]
    rcases (by omega : n % 10 = 0 ∨ n % 10 = 1 ∨ n % 10 = 2 ∨ n % 10 = 3 ∨ n % 10 = 4 ∨ n % 10 = 5 ∨ n % 10 = 6 ∨ n % 10 = 7 ∨ n % 10 = 8 ∨ n % 10 = 9) with h | h | h | h | h | h | h | h | h | h
    · have hd : dgB n = 48 := by unfold dgB; rw [h]; rfl
      rw [hd]
      exact dig_0 _ _ n _ h0 h1 (by omega) (by omega) rfl h (by rw [str_len, digO_len]; omega) w H
    · have hd : dgB n = 49 := by unfold dgB; rw [h]; rfl
      rw [hd]
      exact dig_1 _ _ n _ h0 h1 (by omega) (by omega) rfl h (by rw [str_len, digO_len]; omega) w H
    · have hd : dgB n = 50 := by unfold dgB; rw [h]; rfl
      rw [hd]
      exact dig_2 _ _ n _ h0 h1 (by omega) (by omega) rfl h (by rw [str_len, digO_len]; omega) w H
    · have hd : dgB n = 51 := by unfold dgB; rw [h]; rfl
      rw [hd]
      exact dig_3 _ _ n _ h0 h1 (by omega) (by omega) rfl h (by rw [str_len, digO_len]; omega) w H
    · have hd : dgB n = 52 := by unfold dgB; rw [h]; rfl
      rw [hd]
      exact dig_4 _ _ n _ h0 h1 (by omega) (by omega) rfl h (by rw [str_len, digO_len]; omega) w H
    · have hd : dgB n = 53 := by unfold dgB; rw [h]; rfl
      rw [hd]
      exact dig_5 _ _ n _ h0 h1 (by omega) (by omega) rfl h (by rw [str_len, digO_len]; omega) w H
    · have hd : dgB n = 54 := by unfold dgB; rw [h]; rfl
      rw [hd]
      exact dig_6 _ _ n _ h0 h1 (by omega) (by omega) rfl h (by rw [str_len, digO_len]; omega) w H
    · have hd : dgB n = 55 := by unfold dgB; rw [h]; rfl
      rw [hd]
      exact dig_7 _ _ n _ h0 h1 (by omega) (by omega) rfl h (by rw [str_len, digO_len]; omega) w H
    · have hd : dgB n = 56 := by unfold dgB; rw [h]; rfl
      rw [hd]
      exact dig_8 _ _ n _ h0 h1 (by omega) (by omega) rfl h (by rw [str_len, digO_len]; omega) w H
    · have hd : dgB n = 57 := by unfold dgB; rw [h]; rfl
      rw [hd]
      exact dig_9 _ _ n _ h0 h1 (by omega) (by omega) rfl h (by rw [str_len, digO_len]; omega) w H
end Go.Proofs.YtneeddbonhiflaaDoor
