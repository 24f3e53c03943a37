/-
  Contracts of isNumber and ParseDecimal (of the program).
-/
import Derived.Test.YtammegdfjgphkaaDoorIntDecW
import Derived.Test.YtammegdfjgphkaaDoorShelf
namespace Go.Proofs.YtammegdfjgphkaaDoor
open Go.RowKit

theorem cut_has (l : List UInt8) : Lib.hasPrefix l [45] = negS l := by
  cases l with
  | nil => rfl
  | cons x l =>
    unfold Lib.hasPrefix negS
    simp only [List.isPrefixOf, Bool.and_true]
    rw [Bool.eq_iff_iff]
    simp only [beq_iff_eq]
    exact eq_comm
theorem cut_rest (l : List UInt8) : Lib.trimPrefix l [45] = restS l := by
  unfold Lib.trimPrefix restS
  rw [cut_has]
  rfl

theorem numOk_bad {l : List UInt8} {k : Nat} (h : k < l.length) (hx : isD l[k] = false) : numOk l = false := by
  rcases hn : numOk l with _ | _
  · rfl
  · have := numOk_all hn
    rw [List.all_eq_true] at this
    rw [this _ (List.getElem_mem h)] at hx
    cases hx
theorem numOk_cons {x : UInt8} {r : List UInt8} (h : (x :: r).all isD = true) : numOk (x :: r) = (decide (x :: r = [48]) || decide (x ≠ 48)) := by
  unfold numOk
  rw [h]
  simp

set_option maxRecDepth 100000 in
set_option maxHeartbeats 1000000 in
theorem isNumber_any (w : World) (l : List UInt8) (hz : l.length ≤ 100000) : Calls Tryd.prog 49 #[.string ⟨l.toArray⟩] w fun e w' => e = .returned (.bool (numOk l)) ∧ w = w' := by
  obtain ⟨n, hn⟩ : ∃ n, l.length = n := ⟨_, rfl⟩
  have hs : (⟨l.toArray⟩ : ByteArray).size = n := by rw [← hn]; rfl
  have hnz : (n : Int) ≤ 100000 := by omega
  clear hz
  go_enter Tryd.func49, Tryd.ntmps49
  go_wp2
  go_loop [6] (fun i => ∃ k : Nat, k ≤ n ∧ i = .int .i64 k ∧ (l.take k).all isD = true) (fun i => n - (intOf i).toNat)
  case atStart => exact ⟨0, by omega, rfl, rfl⟩
  case round =>
    obtain ⟨k, hk, rfl, ht⟩ := hrel
    have HT := Lib.hid ht
    clear ht
    by_cases hlt : k < n
    · have h0 : (0 : Int) ≤ k := by omega
      have h1 : (k : Int) < n := by omega
      have hkl : k < l.length := by omega
      have HX := Lib.hid (List.take_succ_eq_append_getElem hkl)
      have HBD := Lib.hid (fun h => numOk_bad hkl h)
      obtain ⟨x, hx⟩ : ∃ x, (⟨l.toArray⟩ : ByteArray)[k]'(by rw [hs]; exact hlt) = x := ⟨_, rfl⟩
      have hx2 : l[k] = x := hx
      rw [hx2] at HX HBD
      clear hx2
      by_cases h48 : x.toNat < 48
      · have h48' : (x.toNat : Int) < 48 := by omega
        have hd : isD x = false := by unfold isD; simp; omega
        have HN := Lib.hid (HBD.out hd)
        clear hd h48
        go_wp2
        go_ret
        exact ⟨by rw [HN.out]; rfl, rfl⟩
      · have h48' : ¬ (x.toNat : Int) < 48 := by omega
        by_cases h57 : 57 < x.toNat
        · have h57' : (57 : Int) < x.toNat := by omega
          have hd : isD x = false := by unfold isD; simp; omega
          have HN := Lib.hid (HBD.out hd)
          clear hd h48 h57
          go_wp2
          go_ret
          exact ⟨by rw [HN.out]; rfl, rfl⟩
        · have h57' : ¬ (57 : Int) < x.toNat := by omega
          have HD : Hid (isD x = true) := by show _ = _; unfold isD; simp; omega
          clear h48 h57
          go_wp2
          exact ⟨⟨k + 1, by omega, by go_num, by rw [HX.out, List.all_append, HT.out]; simp [HD.out]⟩, by simp [intOf]; omega⟩
    · obtain rfl : k = n := by omega
      have hall : l.all isD = true := by
        have := HT.out
        rwa [List.take_of_length_le (by omega)] at this
      rcases l with _ | ⟨x, r⟩
      · simp only [List.length_nil] at hn
        subst hn
        go_wp2
        go_ret
        exact ⟨rfl, rfl⟩
      · have HN := Lib.hid (numOk_cons hall)
        have hk0 : 0 < k := by simp only [List.length_cons] at hn; omega
        have hk0' : (0 : Int) < k := by omega
        have e3 : (⟨(x :: r).toArray⟩ : ByteArray)[0]'(by rw [hs]; exact hk0) = x := rfl
        by_cases h48 : x = 48 ∧ r = []
        · obtain ⟨rfl, rfl⟩ := h48
          simp only [List.length_cons, List.length_nil, Nat.zero_add] at hn
          subst hn
          clear hall e3 HN hs
          go_wp2
          go_ret
          exact ⟨rfl, rfl⟩
        · have e4 : (x == 48 && r.isEmpty) = false := by
            rw [Bool.and_eq_false_iff]
            by_cases hx : x = 48
            · right
              cases r with
              | nil => exact absurd ⟨hx, rfl⟩ h48
              | cons y r => rfl
            · left; simpa using hx
          have e6 : decide (x :: r = [48]) = false := by
            rw [decide_eq_false_iff_not]
            intro e
            injection e with e1 e2
            exact h48 ⟨e1, e2⟩
          have e5 : ((x.toNat : Int) != 48) = decide (x ≠ 48) := by
            rw [Bool.eq_iff_iff]
            simp only [bne_iff_ne, decide_eq_true_eq, ne_eq]
            constructor
            · intro h e; subst e; exact h rfl
            · intro h e; exact h (UInt8.toNat_inj.1 (show x.toNat = 48 by omega))
          rw [e6, Bool.false_or, ← e5] at HN
          clear e5 e6 hall h48
          go_wp2
          go_ret
          exact ⟨by rw [HN.out]; rfl, rfl⟩
end Go.Proofs.YtammegdfjgphkaaDoor
