/-
  Contract of the reference's has: whether a code point is a character of a kind.
-/
import Derived.Test.YtkmpmphabohkkaaDoorChOct
import Derived.LoopTactic
namespace Go.Proofs.YtkmpmphabohkkaaDoor
open Go.RowKit

def prnO : List Nat := [32, 39, 40, 41, 43, 44, 45, 46, 47, 58, 61, 63]
theorem prn_0 (h : 0 < (⟨#[32, 39, 40, 41, 43, 44, 45, 46, 47, 58, 61, 63]⟩ : ByteArray).size) : wrap64 (((⟨#[32, 39, 40, 41, 43, 44, 45, 46, 47, 58, 61, 63]⟩ : ByteArray)[0]'h).toNat : Int) = 32 := by
  have e : (⟨#[32, 39, 40, 41, 43, 44, 45, 46, 47, 58, 61, 63]⟩ : ByteArray)[0]'h = 32 := rfl
  rw [e]
  decide +kernel
theorem prn_1 (h : 1 < (⟨#[32, 39, 40, 41, 43, 44, 45, 46, 47, 58, 61, 63]⟩ : ByteArray).size) : wrap64 (((⟨#[32, 39, 40, 41, 43, 44, 45, 46, 47, 58, 61, 63]⟩ : ByteArray)[1]'h).toNat : Int) = 39 := by
  have e : (⟨#[32, 39, 40, 41, 43, 44, 45, 46, 47, 58, 61, 63]⟩ : ByteArray)[1]'h = 39 := rfl
  rw [e]
  decide +kernel
theorem prn_2 (h : 2 < (⟨#[32, 39, 40, 41, 43, 44, 45, 46, 47, 58, 61, 63]⟩ : ByteArray).size) : wrap64 (((⟨#[32, 39, 40, 41, 43, 44, 45, 46, 47, 58, 61, 63]⟩ : ByteArray)[2]'h).toNat : Int) = 40 := by
  have e : (⟨#[32, 39, 40, 41, 43, 44, 45, 46, 47, 58, 61, 63]⟩ : ByteArray)[2]'h = 40 := rfl
  rw [e]
  decide +kernel
theorem prn_3 (h : 3 < (⟨#[32, 39, 40, 41, 43, 44, 45, 46, 47, 58, 61, 63]⟩ : ByteArray).size) : wrap64 (((⟨#[32, 39, 40, 41, 43, 44, 45, 46, 47, 58, 61, 63]⟩ : ByteArray)[3]'h).toNat : Int) = 41 := by
  have e : (⟨#[32, 39, 40, 41, 43, 44, 45, 46, 47, 58, 61, 63]⟩ : ByteArray)[3]'h = 41 := rfl
  rw [e]
  decide +kernel
theorem prn_4 (h : 4 < (⟨#[32, 39, 40, 41, 43, 44, 45, 46, 47, 58, 61, 63]⟩ : ByteArray).size) : wrap64 (((⟨#[32, 39, 40, 41, 43, 44, 45, 46, 47, 58, 61, 63]⟩ : ByteArray)[4]'h).toNat : Int) = 43 := by
  have e : (⟨#[32, 39, 40, 41, 43, 44, 45, 46, 47, 58, 61, 63]⟩ : ByteArray)[4]'h = 43 := rfl
  rw [e]
  decide +kernel
theorem prn_5 (h : 5 < (⟨#[32, 39, 40, 41, 43, 44, 45, 46, 47, 58, 61, 63]⟩ : ByteArray).size) : wrap64 (((⟨#[32, 39, 40, 41, 43, 44, 45, 46, 47, 58, 61, 63]⟩ : ByteArray)[5]'h).toNat : Int) = 44 := by
  have e : (⟨#[32, 39, 40, 41, 43, 44, 45, 46, 47, 58, 61, 63]⟩ : ByteArray)[5]'h = 44 := rfl
  rw [e]
  decide +kernel
theorem prn_6 (h : 6 < (⟨#[32, 39, 40, 41, 43, 44, 45, 46, 47, 58, 61, 63]⟩ : ByteArray).size) : wrap64 (((⟨#[32, 39, 40, 41, 43, 44, 45, 46, 47, 58, 61, 63]⟩ : ByteArray)[6]'h).toNat : Int) = 45 := by
  have e : (⟨#[32, 39, 40, 41, 43, 44, 45, 46, 47, 58, 61, 63]⟩ : ByteArray)[6]'h = 45 := rfl
  rw [e]
  decide +kernel
theorem prn_7 (h : 7 < (⟨#[32, 39, 40, 41, 43, 44, 45, 46, 47, 58, 61, 63]⟩ : ByteArray).size) : wrap64 (((⟨#[32, 39, 40, 41, 43, 44, 45, 46, 47, 58, 61, 63]⟩ : ByteArray)[7]'h).toNat : Int) = 46 := by
  have e : (⟨#[32, 39, 40, 41, 43, 44, 45, 46, 47, 58, 61, 63]⟩ : ByteArray)[7]'h = 46 := rfl
  rw [e]
  decide +kernel
theorem prn_8 (h : 8 < (⟨#[32, 39, 40, 41, 43, 44, 45, 46, 47, 58, 61, 63]⟩ : ByteArray).size) : wrap64 (((⟨#[32, 39, 40, 41, 43, 44, 45, 46, 47, 58, 61, 63]⟩ : ByteArray)[8]'h).toNat : Int) = 47 := by
  have e : (⟨#[32, 39, 40, 41, 43, 44, 45, 46, 47, 58, 61, 63]⟩ : ByteArray)[8]'h = 47 := rfl
  rw [e]
  decide +kernel
theorem prn_9 (h : 9 < (⟨#[32, 39, 40, 41, 43, 44, 45, 46, 47, 58, 61, 63]⟩ : ByteArray).size) : wrap64 (((⟨#[32, 39, 40, 41, 43, 44, 45, 46, 47, 58, 61, 63]⟩ : ByteArray)[9]'h).toNat : Int) = 58 := by
  have e : (⟨#[32, 39, 40, 41, 43, 44, 45, 46, 47, 58, 61, 63]⟩ : ByteArray)[9]'h = 58 := rfl
  rw [e]
  decide +kernel
theorem prn_10 (h : 10 < (⟨#[32, 39, 40, 41, 43, 44, 45, 46, 47, 58, 61, 63]⟩ : ByteArray).size) : wrap64 (((⟨#[32, 39, 40, 41, 43, 44, 45, 46, 47, 58, 61, 63]⟩ : ByteArray)[10]'h).toNat : Int) = 61 := by
  have e : (⟨#[32, 39, 40, 41, 43, 44, 45, 46, 47, 58, 61, 63]⟩ : ByteArray)[10]'h = 61 := rfl
  rw [e]
  decide +kernel
theorem prn_11 (h : 11 < (⟨#[32, 39, 40, 41, 43, 44, 45, 46, 47, 58, 61, 63]⟩ : ByteArray).size) : wrap64 (((⟨#[32, 39, 40, 41, 43, 44, 45, 46, 47, 58, 61, 63]⟩ : ByteArray)[11]'h).toNat : Int) = 63 := by
  have e : (⟨#[32, 39, 40, 41, 43, 44, 45, 46, 47, 58, 61, 63]⟩ : ByteArray)[11]'h = 63 := rfl
  rw [e]
  decide +kernel
theorem prn_step {x k v : Nat} (hv : prnO[k]? = some v) (h : (prnO.take k).contains x = false) (hx : ¬ x = v) : (prnO.take (k + 1)).contains x = false := by
  rw [List.contains_eq_mem, decide_eq_false_iff_not] at h ⊢
  rw [List.take_add_one, hv, List.mem_append]
  rintro (h1 | h1)
  · exact h h1
  · exact hx (by simpa using h1)
theorem prnt_yes {x : Nat} (h : (48 ≤ x ∧ x < 58) ∨ (65 ≤ x ∧ x < 91) ∨ (97 ≤ x ∧ x < 123)) : prnt x = true := by
  unfold prnt
  rw [decide_eq_true h]
  rfl
theorem prnt_no {x : Nat} (h : ¬ ((48 ≤ x ∧ x < 58) ∨ (65 ≤ x ∧ x < 91) ∨ (97 ≤ x ∧ x < 123))) : prnt x = prnO.contains x := by
  unfold prnt
  rw [decide_eq_false h]
  rfl
theorem ret_bool7 {a b : Bool} (h : a = b) : Ending.returned (.bool a) = .returned (.bool b) := by rw [h]
theorem u8O_pos {x : Nat} : decide (0 < (u8O x).length) = scal x := by
  rcases h : scal x with _ | _
  · rw [u8O_no h]; rfl
  · have := List.length_pos_iff.2 (u8O_ne h)
    rw [decide_eq_true (by omega)]

set_option maxRecDepth 100000 in
set_option maxHeartbeats 4000000 in
theorem has_any (k : Int) (x : Nat) (hx : x ≤ 100000000) (w : World) :
    Calls Tryd.prog 33 #[.int .i64 k, .int .i64 x] w fun e w' => e = .returned (.bool (hasK k x)) ∧ Below w.heap.size w w' := by
  have HO := Lib.hid (fun w => octets_any x hx w)
  have HP := Lib.hid (u8O_pos (x := x))
  obtain ⟨b, hb⟩ : ∃ b, hasK k x = b := ⟨_, rfl⟩
  rw [hb]
  have hx0 : (0 : Int) ≤ x := by omega
  by_cases k12 : k = 12 ∨ k = 28
  · have e : hasK k x = scal x := by unfold hasK; rw [if_pos k12]
    rw [e] at hb
    have HB : Hid (decide (0 < (u8O x).length) = b) := HP.out.trans hb
    clear e hx hb
    rcases k12 with rfl | rfl
    all_goals
      go_enter Tryd.func33, Tryd.ntmps33
      go_wp2_with fail
      with_reducible refine (HO.out _).mono ?_
      rintro e w1 ⟨a1, c1, rfl, ho, q⟩
      have Q := Lib.hid q
      clear q ho
      go_wp2_with fail
      go_ret
      exact ⟨ret_bool7 HB.out, Q.out⟩
  · by_cases k30 : k = 30
    · subst k30
      have e : hasK 30 x = (scal x && decide (x < 65536)) := by unfold hasK; rw [if_neg k12, if_pos rfl]
      rw [e] at hb
      clear e hx k12
      rcases hs : scal x with _ | _
      · rw [u8O_no hs] at HO
        obtain rfl : b = false := by rw [← hb, hs]; rfl
        clear hs HP hb
        go_enter Tryd.func33, Tryd.ntmps33
        go_wp2_with fail
        with_reducible refine (HO.out _).mono ?_
        rintro e w1 ⟨a1, c1, rfl, ho, q⟩
        have Q := Lib.hid q
        clear q ho
        go_wp2_with fail
        go_ret
        exact ⟨rfl, Q.out⟩
      · have hp : (0 : Int) < ((u8O x).length : Int) := by have := List.length_pos_iff.2 (u8O_ne hs); omega
        have hp2 : 0 < (u8O x).length := by omega
        have HD : Hid (decide ((x : Int) < 65536) = b) := by rw [Hid, ← hb, hs, Bool.true_and, decide_eq_decide]; omega
        clear hs HP hb
        go_enter Tryd.func33, Tryd.ntmps33
        go_wp2_with fail
        with_reducible refine (HO.out _).mono ?_
        rintro e w1 ⟨a1, c1, rfl, ho, q⟩
        have Q := Lib.hid q
        clear q ho
        go_wp2_with fail
        go_ret
        exact ⟨ret_bool7 HD.out, Q.out⟩
    · by_cases k22 : k = 22
      · subst k22
        have e : hasK 22 x = decide (x < 128) := by unfold hasK; rw [if_neg k12, if_neg k30, if_pos rfl]
        have HD : Hid (decide ((x : Int) < 128) = b) := by rw [Hid, ← hb, e, decide_eq_decide]; omega
        clear e hx k12 k30 hb
        go_enter Tryd.func33, Tryd.ntmps33
        go_wp2_with fail
        go_ret
        exact ⟨ret_bool7 HD.out, Below.refl _ _⟩
      · by_cases k26 : k = 26
        · subst k26
          have e : hasK 26 x = decide (32 ≤ x ∧ x < 127) := by unfold hasK; rw [if_neg k12, if_neg k30, if_neg k22, if_pos rfl]
          rw [e] at hb
          clear e hx k12 k30 k22
          by_cases h1 : 32 ≤ x
          · have h1i : (32 : Int) ≤ x := by omega
            have HD : Hid (decide ((x : Int) < 127) = b) := by rw [Hid, ← hb, decide_eq_decide]; omega
            clear hb
            go_enter Tryd.func33, Tryd.ntmps33
            go_wp2_with fail
            go_ret
            exact ⟨ret_bool7 HD.out, Below.refl _ _⟩
          · have h1i : ¬ (32 : Int) ≤ x := by omega
            rw [decide_eq_false (show ¬ (32 ≤ x ∧ x < 127) by omega)] at hb
            subst hb
            go_enter Tryd.func33, Tryd.ntmps33
            go_wp2_with fail
            go_ret
            exact ⟨rfl, Below.refl _ _⟩
        · by_cases k20 : k = 20
          · subst k20
            have e : hasK 20 x = decide ((32 ≤ x ∧ x < 127) ∨ (160 ≤ x ∧ x < 256)) := by unfold hasK; rw [if_neg k12, if_neg k30, if_neg k22, if_neg k26, if_pos rfl]
            rw [e] at hb
            clear e hx k12 k30 k22 k26
            by_cases h1 : 32 ≤ x ∧ x < 127
            · have h1i : (32 : Int) ≤ x := by omega
              have h2i : (x : Int) < 127 := by omega
              rw [decide_eq_true (.inl h1)] at hb
              subst hb
              go_enter Tryd.func33, Tryd.ntmps33
              go_wp2_with fail
              go_ret
              exact ⟨rfl, Below.refl _ _⟩
            · by_cases h2 : 160 ≤ x
              · have h1i : (32 : Int) ≤ x := by omega
                have h2i : ¬ (x : Int) < 127 := by omega
                have h3i : (160 : Int) ≤ x := by omega
                have HD : Hid (decide ((x : Int) < 256) = b) := by rw [Hid, ← hb, decide_eq_decide]; omega
                clear h1 h2 hb
                go_enter Tryd.func33, Tryd.ntmps33
                go_wp2_with fail
                go_ret
                exact ⟨ret_bool7 HD.out, Below.refl _ _⟩
              · have h3i : ¬ (160 : Int) ≤ x := by omega
                rw [decide_eq_false (show ¬ ((32 ≤ x ∧ x < 127) ∨ (160 ≤ x ∧ x < 256)) by omega)] at hb
                subst hb
                by_cases h4 : (32 : Int) ≤ x
                · have h2i : ¬ (x : Int) < 127 := by omega
                  clear h1 h2
                  go_enter Tryd.func33, Tryd.ntmps33
                  go_wp2_with fail
                  go_ret
                  exact ⟨rfl, Below.refl _ _⟩
                · clear h1 h2
                  go_enter Tryd.func33, Tryd.ntmps33
                  go_wp2_with fail
                  go_ret
                  exact ⟨rfl, Below.refl _ _⟩
          · by_cases k19 : k = 19
            · subst k19
              have e : hasK 19 x = prnt x := by unfold hasK; rw [if_neg k12, if_neg k30, if_neg k22, if_neg k26, if_neg k20, if_pos rfl]
              rw [e] at hb
              clear e hx k12 k30 k22 k26 k20
              by_cases hal : (48 ≤ x ∧ x < 58) ∨ (65 ≤ x ∧ x < 91) ∨ (97 ≤ x ∧ x < 123)
              · rw [prnt_yes hal] at hb
                subst hb
                rcases hal with h | h | h
                · have a1 : (48 : Int) ≤ x := by omega
                  have a2 : (x : Int) < 58 := by omega
                  go_enter Tryd.func33, Tryd.ntmps33
                  go_wp2_with fail
                  go_ret
                  exact ⟨rfl, Below.refl _ _⟩
                · have a1 : (48 : Int) ≤ x := by omega
                  have a2 : ¬ (x : Int) < 58 := by omega
                  have a3 : (65 : Int) ≤ x := by omega
                  have a4 : (x : Int) < 91 := by omega
                  go_enter Tryd.func33, Tryd.ntmps33
                  go_wp2_with fail
                  go_ret
                  exact ⟨rfl, Below.refl _ _⟩
                · have a1 : (48 : Int) ≤ x := by omega
                  have a2 : ¬ (x : Int) < 58 := by omega
                  have a3 : (65 : Int) ≤ x := by omega
                  have a4 : ¬ (x : Int) < 91 := by omega
                  have a5 : (97 : Int) ≤ x := by omega
                  have a6 : (x : Int) < 123 := by omega
                  go_enter Tryd.func33, Tryd.ntmps33
                  go_wp2_with fail
                  go_ret
                  exact ⟨rfl, Below.refl _ _⟩
              · have HN := Lib.hid (prnt_no hal)
                have HTT : Hid (prnO.contains x = b) := HN.out.symm.trans hb
                have hcase : ((x : Int) < 48 ∧ (x : Int) < 65 ∧ (x : Int) < 97) ∨ ((48 : Int) ≤ x ∧ ¬ (x : Int) < 58 ∧ (x : Int) < 65 ∧ (x : Int) < 97) ∨ ((48 : Int) ≤ x ∧ ¬ (x : Int) < 58 ∧ (65 : Int) ≤ x ∧ ¬ (x : Int) < 91 ∧ (x : Int) < 97) ∨ ((48 : Int) ≤ x ∧ ¬ (x : Int) < 58 ∧ (65 : Int) ≤ x ∧ ¬ (x : Int) < 91 ∧ (97 : Int) ≤ x ∧ ¬ (x : Int) < 123) := by omega
                clear hal HN hb
                rcases hcase with ⟨a1, a2, a3⟩ | ⟨a1, a2, a3, a4⟩ | ⟨a1, a2, a3, a4, a5⟩ | ⟨a1, a2, a3, a4, a5, a6⟩
                all_goals
                  go_enter Tryd.func33, Tryd.ntmps33
                  go_wp2_with fail
                  go_loop [6] (fun i => ∃ k : Nat, k ≤ 12 ∧ i = .int .i64 k ∧ Hid ((prnO.take k).contains x = false)) (fun i => 12 - (intOf i).toNat)
                  case atStart => exact ⟨0, Nat.zero_le _, rfl, rfl⟩
                  case round =>
                    obtain ⟨k, hk, rfl, HC⟩ := hrel
                    rcases k with _ | _ | _ | _ | _ | _ | _ | _ | _ | _ | _ | _ | _ | k
                    · by_cases hq : x = 32
                      · subst hq
                        first
                          | (exfalso; omega)
                          | (have hw := prn_0; have hb : b = true := HTT.out.symm; subst hb; clear HTT; go_wp2_with fail; go_ret; exact ⟨rfl, Below.refl _ _⟩)
                      · have hqi : ¬ (32 : Int) = x := by omega
                        have hqj : ((32 : Int) == x) = false := by simp; omega
                        have HC2 : Hid ((prnO.take 1).contains x = false) := prn_step (k := 0) (v := 32) rfl HC.out hq
                        have hw := prn_0
                        clear hq
                        go_wp2_with fail
                        go_round
                        case rel => exact ⟨1, by omega, rfl, HC2⟩
                        case measure => simp [intOf]
                    · by_cases hq : x = 39
                      · subst hq
                        first
                          | (exfalso; omega)
                          | (have hw := prn_1; have hb : b = true := HTT.out.symm; subst hb; clear HTT; go_wp2_with fail; go_ret; exact ⟨rfl, Below.refl _ _⟩)
                      · have hqi : ¬ (39 : Int) = x := by omega
                        have hqj : ((39 : Int) == x) = false := by simp; omega
                        have HC2 : Hid ((prnO.take 2).contains x = false) := prn_step (k := 1) (v := 39) rfl HC.out hq
                        have hw := prn_1
                        clear hq
                        go_wp2_with fail
                        go_round
                        case rel => exact ⟨2, by omega, rfl, HC2⟩
                        case measure => simp [intOf]
                    · by_cases hq : x = 40
                      · subst hq
                        first
                          | (exfalso; omega)
                          | (have hw := prn_2; have hb : b = true := HTT.out.symm; subst hb; clear HTT; go_wp2_with fail; go_ret; exact ⟨rfl, Below.refl _ _⟩)
                      · have hqi : ¬ (40 : Int) = x := by omega
                        have hqj : ((40 : Int) == x) = false := by simp; omega
                        have HC2 : Hid ((prnO.take 3).contains x = false) := prn_step (k := 2) (v := 40) rfl HC.out hq
                        have hw := prn_2
                        clear hq
                        go_wp2_with fail
                        go_round
                        case rel => exact ⟨3, by omega, rfl, HC2⟩
                        case measure => simp [intOf]
                    · by_cases hq : x = 41
                      · subst hq
                        first
                          | (exfalso; omega)
                          | (have hw := prn_3; have hb : b = true := HTT.out.symm; subst hb; clear HTT; go_wp2_with fail; go_ret; exact ⟨rfl, Below.refl _ _⟩)
                      · have hqi : ¬ (41 : Int) = x := by omega
                        have hqj : ((41 : Int) == x) = false := by simp; omega
                        have HC2 : Hid ((prnO.take 4).contains x = false) := prn_step (k := 3) (v := 41) rfl HC.out hq
                        have hw := prn_3
                        clear hq
                        go_wp2_with fail
                        go_round
                        case rel => exact ⟨4, by omega, rfl, HC2⟩
                        case measure => simp [intOf]
                    · by_cases hq : x = 43
                      · subst hq
                        first
                          | (exfalso; omega)
                          | (have hw := prn_4; have hb : b = true := HTT.out.symm; subst hb; clear HTT; go_wp2_with fail; go_ret; exact ⟨rfl, Below.refl _ _⟩)
                      · have hqi : ¬ (43 : Int) = x := by omega
                        have hqj : ((43 : Int) == x) = false := by simp; omega
                        have HC2 : Hid ((prnO.take 5).contains x = false) := prn_step (k := 4) (v := 43) rfl HC.out hq
                        have hw := prn_4
                        clear hq
                        go_wp2_with fail
                        go_round
                        case rel => exact ⟨5, by omega, rfl, HC2⟩
                        case measure => simp [intOf]
                    · by_cases hq : x = 44
                      · subst hq
                        first
                          | (exfalso; omega)
                          | (have hw := prn_5; have hb : b = true := HTT.out.symm; subst hb; clear HTT; go_wp2_with fail; go_ret; exact ⟨rfl, Below.refl _ _⟩)
                      · have hqi : ¬ (44 : Int) = x := by omega
                        have hqj : ((44 : Int) == x) = false := by simp; omega
                        have HC2 : Hid ((prnO.take 6).contains x = false) := prn_step (k := 5) (v := 44) rfl HC.out hq
                        have hw := prn_5
                        clear hq
                        go_wp2_with fail
                        go_round
                        case rel => exact ⟨6, by omega, rfl, HC2⟩
                        case measure => simp [intOf]
                    · by_cases hq : x = 45
                      · subst hq
                        first
                          | (exfalso; omega)
                          | (have hw := prn_6; have hb : b = true := HTT.out.symm; subst hb; clear HTT; go_wp2_with fail; go_ret; exact ⟨rfl, Below.refl _ _⟩)
                      · have hqi : ¬ (45 : Int) = x := by omega
                        have hqj : ((45 : Int) == x) = false := by simp; omega
                        have HC2 : Hid ((prnO.take 7).contains x = false) := prn_step (k := 6) (v := 45) rfl HC.out hq
                        have hw := prn_6
                        clear hq
                        go_wp2_with fail
                        go_round
                        case rel => exact ⟨7, by omega, rfl, HC2⟩
                        case measure => simp [intOf]
                    · by_cases hq : x = 46
                      · subst hq
                        first
                          | (exfalso; omega)
                          | (have hw := prn_7; have hb : b = true := HTT.out.symm; subst hb; clear HTT; go_wp2_with fail; go_ret; exact ⟨rfl, Below.refl _ _⟩)
                      · have hqi : ¬ (46 : Int) = x := by omega
                        have hqj : ((46 : Int) == x) = false := by simp; omega
                        have HC2 : Hid ((prnO.take 8).contains x = false) := prn_step (k := 7) (v := 46) rfl HC.out hq
                        have hw := prn_7
                        clear hq
                        go_wp2_with fail
                        go_round
                        case rel => exact ⟨8, by omega, rfl, HC2⟩
                        case measure => simp [intOf]
                    · by_cases hq : x = 47
                      · subst hq
                        first
                          | (exfalso; omega)
                          | (have hw := prn_8; have hb : b = true := HTT.out.symm; subst hb; clear HTT; go_wp2_with fail; go_ret; exact ⟨rfl, Below.refl _ _⟩)
                      · have hqi : ¬ (47 : Int) = x := by omega
                        have hqj : ((47 : Int) == x) = false := by simp; omega
                        have HC2 : Hid ((prnO.take 9).contains x = false) := prn_step (k := 8) (v := 47) rfl HC.out hq
                        have hw := prn_8
                        clear hq
                        go_wp2_with fail
                        go_round
                        case rel => exact ⟨9, by omega, rfl, HC2⟩
                        case measure => simp [intOf]
                    · by_cases hq : x = 58
                      · subst hq
                        first
                          | (exfalso; omega)
                          | (have hw := prn_9; have hb : b = true := HTT.out.symm; subst hb; clear HTT; go_wp2_with fail; go_ret; exact ⟨rfl, Below.refl _ _⟩)
                      · have hqi : ¬ (58 : Int) = x := by omega
                        have hqj : ((58 : Int) == x) = false := by simp; omega
                        have HC2 : Hid ((prnO.take 10).contains x = false) := prn_step (k := 9) (v := 58) rfl HC.out hq
                        have hw := prn_9
                        clear hq
                        go_wp2_with fail
                        go_round
                        case rel => exact ⟨10, by omega, rfl, HC2⟩
                        case measure => simp [intOf]
                    · by_cases hq : x = 61
                      · subst hq
                        first
                          | (exfalso; omega)
                          | (have hw := prn_10; have hb : b = true := HTT.out.symm; subst hb; clear HTT; go_wp2_with fail; go_ret; exact ⟨rfl, Below.refl _ _⟩)
                      · have hqi : ¬ (61 : Int) = x := by omega
                        have hqj : ((61 : Int) == x) = false := by simp; omega
                        have HC2 : Hid ((prnO.take 11).contains x = false) := prn_step (k := 10) (v := 61) rfl HC.out hq
                        have hw := prn_10
                        clear hq
                        go_wp2_with fail
                        go_round
                        case rel => exact ⟨11, by omega, rfl, HC2⟩
                        case measure => simp [intOf]
                    · by_cases hq : x = 63
                      · subst hq
                        first
                          | (exfalso; omega)
                          | (have hw := prn_11; have hb : b = true := HTT.out.symm; subst hb; clear HTT; go_wp2_with fail; go_ret; exact ⟨rfl, Below.refl _ _⟩)
                      · have hqi : ¬ (63 : Int) = x := by omega
                        have hqj : ((63 : Int) == x) = false := by simp; omega
                        have HC2 : Hid ((prnO.take 12).contains x = false) := prn_step (k := 11) (v := 63) rfl HC.out hq
                        have hw := prn_11
                        clear hq
                        go_wp2_with fail
                        go_round
                        case rel => exact ⟨12, by omega, rfl, HC2⟩
                        case measure => simp [intOf]
                    · have hb : b = false := HTT.out.symm.trans HC.out
                      subst hb
                      go_wp2_with fail
                      go_ret
                      exact ⟨rfl, Below.refl _ _⟩
                    · omega
            · have e : hasK k x = false := by unfold hasK; rw [if_neg k12, if_neg k30, if_neg k22, if_neg k26, if_neg k20, if_neg k19]
              obtain rfl : b = false := by rw [← hb, e]
              have k12' : ¬ k = 12 := fun h => k12 (.inl h)
              have k28' : ¬ k = 28 := fun h => k12 (.inr h)
              clear e hx k12 hb
              go_enter Tryd.func33, Tryd.ntmps33
              go_wp2_with fail
              go_ret
              exact ⟨rfl, Below.refl _ _⟩
end Go.Proofs.YtkmpmphabohkkaaDoor
