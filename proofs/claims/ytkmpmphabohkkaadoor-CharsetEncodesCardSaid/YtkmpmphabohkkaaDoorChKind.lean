/-
  Contracts of the program's functions that say which characters belong to a kind.
-/
import Derived.Test.YtkmpmphabohkkaaDoorChU8
import Derived.Test.YtkmpmphabohkkaaDoorChLook
import Derived.Test.YtkmpmphabohkkaaDoorShelf
namespace Go.Proofs.YtkmpmphabohkkaaDoor
open Go.RowKit

/-- whether a number is a character of a kind -/
def hasI (k r : Int) : Bool := decide (0 ≤ r) && hasK k r.toNat
theorem hasI_nat (k : Int) (x : Nat) : hasI k x = hasK k x := by unfold hasI; rw [decide_eq_true (by omega)]; rfl
/-- the library's ValidRune -/
theorem vrune_any (r : Int) (w : World) :
    Calls Tryd.prog 41 #[.int .i32 r] w fun e w' => e = .returned (.bool (decide (0 ≤ r) && scal r.toNat)) ∧ w' = w := by
  refine (Tryd.utf8_ValidRune r w).mono ?_
  rintro e w' ⟨rfl, h⟩
  refine ⟨?_, h⟩
  have e : Lib.validRune r = (decide (0 ≤ r) && scal r.toNat) := by
    rw [Bool.eq_iff_iff]
    unfold Lib.validRune
    rw [Bool.and_eq_true, scal_true, decide_eq_true_eq, decide_eq_true_eq]
    omega
  rw [e]

set_option maxRecDepth 100000 in
theorem ia5_any (r : Int) (w : World) :
    Calls Tryd.prog 44 #[.int .i32 r] w fun e w' => e = .returned (.bool (decide (0 ≤ r ∧ r < 128))) ∧ w' = w := by
  by_cases h : 0 ≤ r
  · by_cases h2 : r ≤ 127
    · have e : (decide (0 ≤ r ∧ r < 128)) = true := decide_eq_true (by omega)
      rw [e]
      clear e
      go_enter Tryd.func44, Tryd.ntmps44
      go_wp2_with fail
      go_ret
      exact ⟨rfl, rfl⟩
    · have e : (decide (0 ≤ r ∧ r < 128)) = false := decide_eq_false (by omega)
      rw [e]
      clear e
      go_enter Tryd.func44, Tryd.ntmps44
      go_wp2_with fail
      go_ret
      exact ⟨rfl, rfl⟩
  · have e : (decide (0 ≤ r ∧ r < 128)) = false := decide_eq_false (by omega)
    rw [e]
    clear e
    go_enter Tryd.func44, Tryd.ntmps44
    go_wp2_with fail
    go_ret
    exact ⟨rfl, rfl⟩

set_option maxRecDepth 100000 in
theorem visible_any (r : Int) (w : World) :
    Calls Tryd.prog 45 #[.int .i32 r] w fun e w' => e = .returned (.bool (decide (32 ≤ r ∧ r < 127))) ∧ w' = w := by
  by_cases h : 32 ≤ r
  · by_cases h2 : r ≤ 126
    · have e : (decide (32 ≤ r ∧ r < 127)) = true := decide_eq_true (by omega)
      rw [e]
      clear e
      go_enter Tryd.func45, Tryd.ntmps45
      go_wp2_with fail
      go_ret
      exact ⟨rfl, rfl⟩
    · have e : (decide (32 ≤ r ∧ r < 127)) = false := decide_eq_false (by omega)
      rw [e]
      clear e
      go_enter Tryd.func45, Tryd.ntmps45
      go_wp2_with fail
      go_ret
      exact ⟨rfl, rfl⟩
  · have e : (decide (32 ≤ r ∧ r < 127)) = false := decide_eq_false (by omega)
    rw [e]
    clear e
    go_enter Tryd.func45, Tryd.ntmps45
    go_wp2_with fail
    go_ret
    exact ⟨rfl, rfl⟩

set_option maxRecDepth 100000 in
theorem teletex_any (r : Int) (w : World) :
    Calls Tryd.prog 43 #[.int .i32 r] w fun e w' => e = .returned (.bool (decide ((32 ≤ r ∧ r < 127) ∨ (160 ≤ r ∧ r < 256)))) ∧ w' = w := by
  have H := Lib.hid (visible_any r w)
  by_cases h : 32 ≤ r ∧ r < 127
  · rw [decide_eq_true h] at H
    have e : (decide ((32 ≤ r ∧ r < 127) ∨ (160 ≤ r ∧ r < 256))) = true := decide_eq_true (by omega)
    rw [e]
    clear e
    go_enter Tryd.func43, Tryd.ntmps43
    go_wp2_with fail
    with_reducible refine H.out.mono ?_
    rintro e w' ⟨rfl, rfl⟩
    go_wp2_with fail
    go_ret
    exact ⟨rfl, rfl⟩
  · rw [decide_eq_false h] at H
    by_cases h1 : 160 ≤ r
    · by_cases h2 : r ≤ 255
      · have e : (decide ((32 ≤ r ∧ r < 127) ∨ (160 ≤ r ∧ r < 256))) = true := decide_eq_true (by omega)
        rw [e]
        clear e
        go_enter Tryd.func43, Tryd.ntmps43
        go_wp2_with fail
        with_reducible refine H.out.mono ?_
        rintro e w' ⟨rfl, rfl⟩
        go_wp2_with fail
        go_ret
        exact ⟨rfl, rfl⟩
      · have e : (decide ((32 ≤ r ∧ r < 127) ∨ (160 ≤ r ∧ r < 256))) = false := decide_eq_false (by omega)
        rw [e]
        clear e
        go_enter Tryd.func43, Tryd.ntmps43
        go_wp2_with fail
        with_reducible refine H.out.mono ?_
        rintro e w' ⟨rfl, rfl⟩
        go_wp2_with fail
        go_ret
        first | exact ⟨rfl, rfl⟩ | exact ⟨by show Ending.returned (.bool (decide (r ≤ 255))) = _; rw [decide_eq_false (by omega)], rfl⟩
    · have e : (decide ((32 ≤ r ∧ r < 127) ∨ (160 ≤ r ∧ r < 256))) = false := decide_eq_false (by omega)
      rw [e]
      clear e
      go_enter Tryd.func43, Tryd.ntmps43
      go_wp2_with fail
      with_reducible refine H.out.mono ?_
      rintro e w' ⟨rfl, rfl⟩
      go_wp2_with fail
      go_ret
      first | exact ⟨rfl, rfl⟩ | exact ⟨by show Ending.returned (.bool (decide (r ≤ 255))) = _; rw [decide_eq_false (by omega)], rfl⟩

set_option maxRecDepth 100000 in
theorem basic_any (r : Int) (w : World) :
    Calls Tryd.prog 46 #[.int .i32 r] w fun e w' => e = .returned (.bool (decide (0 ≤ r) && (scal r.toNat && decide (r.toNat < 65536)))) ∧ w' = w := by
  have H := Lib.hid (vrune_any r w)
  by_cases h : r ≤ 65535
  · have e : (decide (0 ≤ r) && (scal r.toNat && decide (r.toNat < 65536))) = (decide (0 ≤ r) && scal r.toNat) := by
      rw [decide_eq_true (by omega : r.toNat < 65536), Bool.and_true]
    rw [e]
    clear e
    generalize (decide (0 ≤ r) && scal r.toNat) = B at *
    go_enter Tryd.func46, Tryd.ntmps46
    go_wp2_with fail
    with_reducible refine H.out.mono ?_
    rintro e w' ⟨rfl, rfl⟩
    go_wp2_with fail
    go_ret
    exact ⟨rfl, rfl⟩
  · have e : (decide (0 ≤ r) && (scal r.toNat && decide (r.toNat < 65536))) = false := by
      rw [decide_eq_false (by omega : ¬ r.toNat < 65536), Bool.and_false, Bool.and_false]
    rw [e]
    clear e
    go_enter Tryd.func46, Tryd.ntmps46
    go_wp2_with fail
    go_ret
    exact ⟨rfl, rfl⟩
end Go.Proofs.YtkmpmphabohkkaaDoor
