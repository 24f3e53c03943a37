/-
  Contract of the program's isPrintable; all functions of the table at once.
-/
import Derived.Test.YtkmpmphabohkkaaDoorChPrint
namespace Go.Proofs.YtkmpmphabohkkaaDoor
open Go.RowKit

theorem last_bd (x : Nat) : 128 ≤ (by8 (128 + x % 64)).toNat := by rw [by8_nat (by omega)]; omega
theorem idxr_high (x : Int) (h1 : x < 0 ∨ 128 ≤ x) (w : World) :
    Calls Tryd.prog 80 #[.string ⟨#[32, 39, 40, 41, 43, 44, 45, 46, 47, 58, 61, 63]⟩, .int .i32 x] w fun e w' => e = .returned (.int .i64 (-1)) ∧ Below w.heap.size w w' := by
  by_cases hn : x = 65533
  · subst hn
    exact idxr_fffd w
  rcases hs : (decide (0 ≤ x) && scal x.toNat) with _ | _
  · exact idxr_not x h1 hs w
  · have hs' := hs
    rw [Bool.and_eq_true, decide_eq_true_eq] at hs'
    obtain ⟨y, rfl⟩ : ∃ y : Nat, x = y := ⟨x.toNat, by omega⟩
    have hs2 : scal y = true := hs'.2
    have hE := encode_scal hs2
    by_cases h2 : y < 2048
    · rw [u8O_2 hs2 (by omega) h2] at hE
      exact idxr_2 _ _ _ hE hs (by omega) hn (last_bd y) w
    · by_cases h3 : y < 65536
      · rw [u8O_3 hs2 h2 h3] at hE
        exact idxr_3 _ _ _ _ hE hs (by omega) hn (last_bd y) w
      · rw [u8O_4 hs2 h3] at hE
        exact idxr_4 _ _ _ _ _ hE hs (by omega) hn (last_bd y) w
theorem p12_has : ∀ q : Fin 128, decide (0 ≤ Lib.indexByte [32, 39, 40, 41, 43, 44, 45, 46, 47, 58, 61, 63] q.val.toUInt8) = [32, 39, 40, 41, 43, 44, 45, 46, 47, 58, 61, 63].contains q.val := by decide +kernel
/-- one of the marks -/
def mkC (r : Int) : Bool := decide (0 ≤ r) && [32, 39, 40, 41, 43, 44, 45, 46, 47, 58, 61, 63].contains r.toNat
theorem mkC_high {r : Int} (h : r < 0 ∨ 128 ≤ r) : mkC r = false := by
  unfold mkC
  rcases h with h | h
  · rw [decide_eq_false (by omega)]
    rfl
  · rw [Bool.and_eq_false_iff]
    right
    rw [List.contains_eq_mem, decide_eq_false_iff_not]
    simp only [List.mem_cons, List.not_mem_nil, or_false]
    omega
set_option maxRecDepth 100000 in
theorem contains_any (r : Int) (w : World) :
    Calls Tryd.prog 61 #[.string ⟨#[32, 39, 40, 41, 43, 44, 45, 46, 47, 58, 61, 63]⟩, .int .i32 r] w fun e w' => e = .returned (.bool (mkC r)) ∧ Below w.heap.size w w' := by
  by_cases h : r < 0 ∨ 128 ≤ r
  · rw [mkC_high h]
    have H := Lib.hid (idxr_high r h w)
    clear h
    go_enter Tryd.func61, Tryd.ntmps61
    go_wp2_with fail
    with_reducible refine H.out.mono ?_
    rintro e w1 ⟨rfl, q⟩
    have Q := Lib.hid q
    clear q
    go_wp2_with fail
    go_ret
    exact ⟨rfl, Q.out⟩
  · refine (Tryd.strings_ContainsRune_ascii _ r w (by omega) (by omega)).mono ?_
    rintro e w' ⟨rfl, rfl⟩
    refine ⟨?_, Below.refl _ _⟩
    have := p12_has ⟨r.toNat, by omega⟩
    unfold mkC
    rw [decide_eq_true (by omega : 0 ≤ r), Bool.true_and, ← this]
theorem prnt_is (r : Int) : (decide (0 ≤ r) && prnt r.toNat) = (decide ((65 ≤ r ∧ r ≤ 90) ∨ (97 ≤ r ∧ r ≤ 122) ∨ (48 ≤ r ∧ r ≤ 57)) || mkC r) := by
  unfold prnt mkC
  by_cases h : 0 ≤ r
  · rw [decide_eq_true h, Bool.true_and, Bool.true_and]
    congr 1
    rw [decide_eq_decide]
    omega
  · rw [decide_eq_false h, Bool.false_and, Bool.false_and, Bool.or_false]
    exact (decide_eq_false (by omega)).symm
set_option maxRecDepth 100000 in
theorem printable_any (r : Int) (w : World) :
    Calls Tryd.prog 42 #[.int .i32 r] w fun e w' => e = .returned (.bool (decide (0 ≤ r) && prnt r.toNat)) ∧ Below w.heap.size w w' := by
  rw [prnt_is]
  have H := Lib.hid (contains_any r w)
  by_cases h0 : r < 48
  · have f : ¬ 48 ≤ r ∧ ¬ 65 ≤ r ∧ ¬ 97 ≤ r := by omega
    obtain ⟨f0, f1, f2⟩ := f
    have e : (decide ((65 ≤ r ∧ r ≤ 90) ∨ (97 ≤ r ∧ r ≤ 122) ∨ (48 ≤ r ∧ r ≤ 57)) || mkC r) = mkC r := by rw [decide_eq_false (by omega)]; rfl
    rw [e]
    clear e
    generalize mkC r = B at *
    go_enter Tryd.func42, Tryd.ntmps42
    go_wp2_with fail
    with_reducible refine H.out.mono ?_
    rintro e w1 ⟨rfl, q⟩
    have Q := Lib.hid q
    clear q
    go_wp2_with fail
    go_ret
    exact ⟨rfl, Q.out⟩
  · by_cases h1 : r ≤ 57
    · have f : 48 ≤ r ∧ r ≤ 57 ∧ ¬ 65 ≤ r ∧ ¬ 97 ≤ r := by omega
      obtain ⟨f0, f1, f2, f3⟩ := f
      have e : (decide ((65 ≤ r ∧ r ≤ 90) ∨ (97 ≤ r ∧ r ≤ 122) ∨ (48 ≤ r ∧ r ≤ 57)) || mkC r) = true := by rw [decide_eq_true (by omega)]; rfl
      rw [e]
      clear e H
      go_enter Tryd.func42, Tryd.ntmps42
      go_wp2_with fail
      go_ret
      exact ⟨rfl, Below.refl _ _⟩
    · by_cases h2 : r < 65
      · have f : 48 ≤ r ∧ ¬ r ≤ 57 ∧ ¬ 65 ≤ r ∧ ¬ 97 ≤ r := by omega
        obtain ⟨f0, f1, f2, f3⟩ := f
        have e : (decide ((65 ≤ r ∧ r ≤ 90) ∨ (97 ≤ r ∧ r ≤ 122) ∨ (48 ≤ r ∧ r ≤ 57)) || mkC r) = mkC r := by rw [decide_eq_false (by omega)]; rfl
        rw [e]
        clear e
        generalize mkC r = B at *
        go_enter Tryd.func42, Tryd.ntmps42
        go_wp2_with fail
        with_reducible refine H.out.mono ?_
        rintro e w1 ⟨rfl, q⟩
        have Q := Lib.hid q
        clear q
        go_wp2_with fail
        go_ret
        exact ⟨rfl, Q.out⟩
      · by_cases h3 : r ≤ 90
        · have f : 65 ≤ r ∧ r ≤ 90 := by omega
          obtain ⟨f0, f1⟩ := f
          have e : (decide ((65 ≤ r ∧ r ≤ 90) ∨ (97 ≤ r ∧ r ≤ 122) ∨ (48 ≤ r ∧ r ≤ 57)) || mkC r) = true := by rw [decide_eq_true (by omega)]; rfl
          rw [e]
          clear e H
          go_enter Tryd.func42, Tryd.ntmps42
          go_wp2_with fail
          go_ret
          exact ⟨rfl, Below.refl _ _⟩
        · by_cases h4 : r < 97
          · have f : 65 ≤ r ∧ ¬ r ≤ 90 ∧ ¬ 97 ≤ r ∧ 48 ≤ r ∧ ¬ r ≤ 57 := by omega
            obtain ⟨f0, f1, f2, f3, f4⟩ := f
            have e : (decide ((65 ≤ r ∧ r ≤ 90) ∨ (97 ≤ r ∧ r ≤ 122) ∨ (48 ≤ r ∧ r ≤ 57)) || mkC r) = mkC r := by rw [decide_eq_false (by omega)]; rfl
            rw [e]
            clear e
            generalize mkC r = B at *
            go_enter Tryd.func42, Tryd.ntmps42
            go_wp2_with fail
            with_reducible refine H.out.mono ?_
            rintro e w1 ⟨rfl, q⟩
            have Q := Lib.hid q
            clear q
            go_wp2_with fail
            go_ret
            exact ⟨rfl, Q.out⟩
          · by_cases h5 : r ≤ 122
            · have f : 65 ≤ r ∧ ¬ r ≤ 90 ∧ 97 ≤ r ∧ r ≤ 122 := by omega
              obtain ⟨f0, f1, f2, f3⟩ := f
              have e : (decide ((65 ≤ r ∧ r ≤ 90) ∨ (97 ≤ r ∧ r ≤ 122) ∨ (48 ≤ r ∧ r ≤ 57)) || mkC r) = true := by rw [decide_eq_true (by omega)]; rfl
              rw [e]
              clear e H
              go_enter Tryd.func42, Tryd.ntmps42
              go_wp2_with fail
              go_ret
              exact ⟨rfl, Below.refl _ _⟩
            · have f : 65 ≤ r ∧ ¬ r ≤ 90 ∧ 97 ≤ r ∧ ¬ r ≤ 122 ∧ 48 ≤ r ∧ ¬ r ≤ 57 := by omega
              obtain ⟨f0, f1, f2, f3, f4, f5⟩ := f
              have e : (decide ((65 ≤ r ∧ r ≤ 90) ∨ (97 ≤ r ∧ r ≤ 122) ∨ (48 ≤ r ∧ r ≤ 57)) || mkC r) = mkC r := by rw [decide_eq_false (by omega)]; rfl
              rw [e]
              clear e
              generalize mkC r = B at *
              go_enter Tryd.func42, Tryd.ntmps42
              go_wp2_with fail
              with_reducible refine H.out.mono ?_
              rintro e w1 ⟨rfl, q⟩
              have Q := Lib.hid q
              clear q
              go_wp2_with fail
              go_ret
              exact ⟨rfl, Q.out⟩

theorem hasK_12 (x : Nat) : hasK 12 x = scal x := rfl
/-- the table's function at a kind, called -/
theorem fn_any (k : Int) (hk : 0 ≤ widK k) : ∃ f, fnK k = .func (.func f) #[] #[] ∧ (∀ args w, (callFunc f args).run Tryd.prog w = .ok (.enter f args) w) ∧ ∀ (r : Int) (w : World), Calls Tryd.prog f #[.int .i32 r] w fun e w' => e = .returned (.bool (hasI k r)) ∧ Below w.heap.size w w' := by
  have st : ∀ {f : FuncId} {a : Array Value} {w : World} {v : Value}, (Calls Tryd.prog f a w fun e w' => e = .returned v ∧ w' = w) → Calls Tryd.prog f a w fun e w' => e = .returned v ∧ Below w.heap.size w w' :=
    fun h => h.mono (by rintro e w' ⟨h1, rfl⟩; exact ⟨h1, Below.refl _ _⟩)
  rcases wid_cases k with ⟨rfl, _⟩ | ⟨rfl, _⟩ | ⟨rfl, _⟩ | ⟨rfl | rfl | rfl | rfl, _⟩ | ⟨_, h⟩
  · exact ⟨_, rfl, enters_of Tryd.func41 (by kernel_rfl) rfl, fun r w => st (vrune_any r w)⟩
  · exact ⟨_, rfl, enters_of Tryd.func41 (by kernel_rfl) rfl, fun r w => st (vrune_any r w)⟩
  · exact ⟨_, rfl, enters_of Tryd.func46 (by kernel_rfl) rfl, fun r w => st (basic_any r w)⟩
  · exact ⟨_, rfl, enters_of Tryd.func42 (by kernel_rfl) rfl, fun r w => printable_any r w⟩
  · refine ⟨_, rfl, enters_of Tryd.func43 (by kernel_rfl) rfl, fun r w => st ?_⟩
    have e : hasI 20 r = decide ((32 ≤ r ∧ r < 127) ∨ (160 ≤ r ∧ r < 256)) := by
      rw [Bool.eq_iff_iff]
      show (decide (0 ≤ r) && decide ((32 ≤ r.toNat ∧ r.toNat < 127) ∨ (160 ≤ r.toNat ∧ r.toNat < 256))) = true ↔ _
      rw [Bool.and_eq_true, decide_eq_true_eq, decide_eq_true_eq, decide_eq_true_eq]
      omega
    rw [e]
    exact teletex_any r w
  · refine ⟨_, rfl, enters_of Tryd.func44 (by kernel_rfl) rfl, fun r w => st ?_⟩
    have e : hasI 22 r = decide (0 ≤ r ∧ r < 128) := by
      rw [Bool.eq_iff_iff]
      show (decide (0 ≤ r) && decide (r.toNat < 128)) = true ↔ _
      rw [Bool.and_eq_true, decide_eq_true_eq, decide_eq_true_eq, decide_eq_true_eq]
      omega
    rw [e]
    exact ia5_any r w
  · refine ⟨_, rfl, enters_of Tryd.func45 (by kernel_rfl) rfl, fun r w => st ?_⟩
    have e : hasI 26 r = decide (32 ≤ r ∧ r < 127) := by
      rw [Bool.eq_iff_iff]
      show (decide (0 ≤ r) && decide (32 ≤ r.toNat ∧ r.toNat < 127)) = true ↔ _
      rw [Bool.and_eq_true, decide_eq_true_eq, decide_eq_true_eq, decide_eq_true_eq]
      omega
    rw [e]
    exact visible_any r w
  · omega
end Go.Proofs.YtkmpmphabohkkaaDoor
