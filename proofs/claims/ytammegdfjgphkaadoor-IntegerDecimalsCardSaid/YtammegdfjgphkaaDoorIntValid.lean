/-
  Contracts over the octets of an integer: the reference's bit and Valid; redundant, Valid, shortest.
-/
import Derived.Test.YtammegdfjgphkaaDoorClone
import Derived.Test.YtammegdfjgphkaaDoorSlices
import Derived.Test.YtammegdfjgphkaaDoorIntMath2
namespace Go.Proofs.YtammegdfjgphkaaDoor
open Go.RowKit

def lenOfV : Value → Nat | .slice _ n _ => n | _ => 0
/-- a bit, from the highest one on -/
def bitN (l : List UInt8) (i : Nat) : Nat := (l.getD (i / 8) 0).toNat / 2 ^ (7 - i % 8) % 2
def bitsum (l : List UInt8) : Nat → Nat
  | 0 => 0
  | k + 1 => bitsum l k + bitN l k
theorem bitN_le (l : List UInt8) (i : Nat) : bitN l i ≤ 1 := by unfold bitN; omega
theorem bitsum_le (l : List UInt8) : ∀ k, bitsum l k ≤ k
  | 0 => Nat.le_refl _
  | k + 1 => by
    have h1 := bitsum_le l k
    have h2 := bitN_le l k
    show bitsum l k + bitN l k ≤ k + 1
    omega
theorem pop8 : ∀ n : Fin 256, ((bitsum [UInt8.ofNat n.val] 8 = 0 ↔ n.val = 0) ∧ (bitsum [UInt8.ofNat n.val] 8 = 8 ↔ n.val = 255)) := by decide +kernel
theorem bitsum9 (x y : UInt8) (l : List UInt8) : bitsum (x :: y :: l) 9 = bitsum [x] 8 + y.toNat / 128 := by
  have e8 : bitsum (x :: y :: l) 8 = bitsum [x] 8 := rfl
  show bitsum (x :: y :: l) 8 + bitN (x :: y :: l) 8 = _
  rw [e8]
  have hy := y.toNat_lt
  have : bitN (x :: y :: l) 8 = y.toNat / 128 % 2 := rfl
  rw [this]
  omega
theorem vI_bits (x y : UInt8) (l : List UInt8) : vI (x :: y :: l) = (!(decide (bitsum (x :: y :: l) 9 = 0)) && !(decide (bitsum (x :: y :: l) 9 = 9))) := by
  have hx := pop8 ⟨x.toNat, x.toNat_lt⟩
  simp only [UInt8.ofNat_toNat] at hx
  have hb := bitsum_le [x] 8
  have hy := y.toNat_lt
  have h9 := bitsum9 x y l
  unfold vI
  rw [Bool.eq_iff_iff]
  simp only [Bool.and_eq_true, Bool.not_eq_true', Bool.and_eq_false_iff, decide_eq_false_iff_not]
  omega

theorem bit_eq (x : UInt8) (s : Nat) : (wrap64 ((x.toNat : Int) / 2 ^ s)).tmod 2 = ((x.toNat / 2 ^ s % 2 : Nat) : Int) := by
  have hx := x.toNat_lt
  have hm : x.toNat / 2 ^ s ≤ 255 := Nat.le_trans (Nat.div_le_self _ _) (by omega)
  have e : (x.toNat : Int) / 2 ^ s = ((x.toNat / 2 ^ s : Nat) : Int) := by
    rw [Int.natCast_ediv, Int.natCast_pow]
    rfl
  rw [e]
  generalize x.toNat / 2 ^ s = m at *
  have e4 : wrap64 (m : Int) = m := by unfold wrap64; omega
  rw [e4, Int.tmod_eq_emod_of_nonneg (by omega)]
  omega
theorem bit_any {w : World} {a : Option Addr} {n c : Nat} {l : List UInt8} (h : Bs w a n c l) {i : Nat} (hi : i / 8 < n) (hi2 : i < 16) :
    Calls Tryd.prog 34 #[.slice a n c, .int .i64 i] w fun e w' => e = .returned (.int .i64 (bitN l i)) ∧ w = w' := by
  obtain ⟨b, off, hl, rfl, _, hc⟩ := h.at_ hi
  have e1 : l.getD (i / 8) 0 = l[i / 8] := by simp [hl]
  have hb : bitN l i = l[i / 8].toNat / 2 ^ (7 - i % 8) % 2 := by unfold bitN; rw [e1]
  rw [hb]
  clear hb e1
  have hx := byte_bd l[i / 8]
  generalize l[i / 8] = x at *
  clear h hl
  obtain ⟨q, hq⟩ : ∃ q, i / 8 = q := ⟨_, rfl⟩
  obtain ⟨s, hs⟩ : ∃ s, 7 - i % 8 = s := ⟨_, rfl⟩
  have e2 : (i : Int) / 8 = q := by omega
  have e3 : 7 - (i : Int) % 8 = s := by omega
  rw [hq] at hc hi
  rw [hs]
  have hq0 : (0 : Int) ≤ q := by omega
  have hqn : (q : Int) < n := by omega
  have hs0 : (0 : Int) ≤ s := by omega
  have hs8 : (s : Int) ≤ 7 := by omega
  go_enter Tryd.func34, Tryd.ntmps34
  go_wp2
  go_ret
  exact ⟨ret_int (bit_eq x s), rfl⟩

set_option maxHeartbeats 1000000 in
/-- the reference's Valid -/
theorem ref_valid_any {w : World} {a : Option Addr} {n c : Nat} {l : List UInt8} (h : Bs w a n c l) :
    Calls Tryd.prog 20 #[.slice a n c] w fun e w' => e = .returned (.bool (vI l)) ∧ w = w' := by
  have hl := h.len
  rcases l with _ | ⟨x, _ | ⟨y, r⟩⟩
  · simp only [List.length_nil] at hl
    subst hl
    clear h
    go_enter Tryd.func20, Tryd.ntmps20
    go_wp2
    go_ret
    exact ⟨rfl, rfl⟩
  · simp only [List.length_cons, List.length_nil] at hl
    subst hl
    clear h
    go_enter Tryd.func20, Tryd.ntmps20
    go_wp2
    go_ret
    exact ⟨rfl, rfl⟩
  · simp only [List.length_cons] at hl
    have hn2 : 2 ≤ n := by omega
    have hn0 : ((n : Int) == 0) = false := by simp; omega
    have hn1 : ((n : Int) == 1) = false := by simp; omega
    have HB := Lib.hid (fun i (hi : i < 9) => bit_any (i := i) h (by omega) (by omega))
    have HV := Lib.hid (vI_bits x y r)
    have HL := Lib.hid (bitsum_le (x :: y :: r))
    generalize x :: y :: r = l at *
    clear h hl
    go_enter Tryd.func20, Tryd.ntmps20
    go_wp2
    go_loop [3, 4] (fun s i => ∃ k z : Nat, k ≤ 9 ∧ z ≤ 9 ∧ i = .int .i64 k ∧ s = .int .i64 z ∧ z = bitsum l k) (fun _ i => 9 - (intOf i).toNat)
    case atStart => exact ⟨0, 0, by omega, by omega, rfl, rfl, rfl⟩
    case round =>
      obtain ⟨k, z, hk, hz9, rfl, rfl, hz⟩ := hrel
      have HZ := Lib.hid hz
      clear hz
      by_cases hlt : k < 9
      · have h0 : (0 : Int) ≤ k := by omega
        have h1 : (k : Int) < 9 := by omega
        obtain ⟨b, hb⟩ : ∃ b, Hid (bitN l k = b) := ⟨_, rfl⟩
        have hb1 : b ≤ 1 := by have := bitN_le l k; have := hb.out; omega
        have HK := Lib.hid (HB.out k hlt)
        rw [hb.out] at HK
        go_wp2_with (go_at_call 34; go_must (refine HK.out.mono ?_); rintro e w' ⟨rfl, rfl⟩)
        refine ⟨⟨k + 1, z + b, by omega, ?_, by go_num, by go_num, ?_⟩, by simp [intOf]; omega⟩
        · have := HL.out (k + 1)
          have e : bitsum l (k + 1) = z + b := by show bitsum l k + bitN l k = _; rw [← HZ.out, hb.out]
          omega
        · show _ = bitsum l k + bitN l k
          rw [← HZ.out, hb.out]
      · have hk9 : k = 9 := by omega
        subst hk9
        by_cases hz0 : z = 0
        · subst hz0
          go_wp2
          go_ret
          exact ⟨by rw [HV.out, ← HZ.out]; rfl, rfl⟩
        · have hz0' : ((z : Int) != 0) = true := by simp; omega
          by_cases hz9' : z = 9
          · subst hz9'
            go_wp2
            go_ret
            exact ⟨by rw [HV.out, ← HZ.out]; rfl, rfl⟩
          · have hz9'' : ((z : Int) != 9) = true := by simp; omega
            go_wp2
            go_ret
            exact ⟨by rw [HV.out, ← HZ.out]; simp [hz0, hz9'], rfl⟩

/-- redundant: the first octet can be dropped -/
def redI (l : List UInt8) : Bool := decide (2 ≤ l.length) && !vI l
theorem redundant_any {w : World} {a : Option Addr} {n c : Nat} {l : List UInt8} (h : Bs w a n c l) :
    Calls Tryd.prog 36 #[.slice a n c] w fun e w' => e = .returned (.bool (redI l)) ∧ w = w' := by
  have hl := h.len
  by_cases h2 : 2 ≤ n
  · rcases l with _ | ⟨x, _ | ⟨y, r⟩⟩
    · simp only [List.length_nil] at hl; omega
    · simp only [List.length_cons, List.length_nil] at hl; omega
    · obtain ⟨b, off, _, rfl, _, hc0⟩ := h.at_ (i := 0) (by omega)
      obtain ⟨b', off', _, e, _, hc1⟩ := h.at_ (i := 1) (by omega)
      injection e with e
      injection e with e1 e2
      subst e1; subst e2
      simp only [List.getElem_cons_zero, List.getElem_cons_succ, Nat.add_zero] at hc0 hc1
      have hR : redI (x :: y :: r) = !vI (x :: y :: r) := by simp [redI]
      rw [hR]
      have hx := byte_bd x
      have hy := byte_bd y
      have hn : ¬ (n : Int) < 2 := by omega
      clear h hl hR
      by_cases hy8 : y.toNat < 128
      · have hv : (!vI (x :: y :: r)) = ((x.toNat : Int) == 0) := by
          unfold vI
          by_cases hx0 : x.toNat = 0
          · simp [hx0, hy8]
          · have h1 : ((x.toNat : Int) == 0) = false := by rw [beq_eq_false_iff_ne]; omega
            rw [h1]
            simp [hx0]
            omega
        rw [hv]
        clear hv
        have hy8' : (y.toNat : Int) < 128 := by omega
        go_enter Tryd.func36, Tryd.ntmps36
        go_wp2
        go_ret
        exact ⟨rfl, rfl⟩
      · have hv : (!vI (x :: y :: r)) = ((x.toNat : Int) == 255) := by
          unfold vI
          by_cases hx0 : x.toNat = 255
          · simp [hx0]
            omega
          · have h1 : ((x.toNat : Int) == 255) = false := by rw [beq_eq_false_iff_ne]; omega
            rw [h1]
            simp [hx0]
            omega
        rw [hv]
        clear hv
        have hy8' : ¬ (y.toNat : Int) < 128 := by omega
        go_enter Tryd.func36, Tryd.ntmps36
        go_wp2
        go_ret
        exact ⟨rfl, rfl⟩
  · have hR : redI l = false := by simp [redI]; intro h3; omega
    rw [hR]
    have hn : (n : Int) < 2 := by omega
    clear h hl hR
    go_enter Tryd.func36, Tryd.ntmps36
    go_wp2
    go_ret
    exact ⟨rfl, rfl⟩
theorem valid_any {w : World} {a : Option Addr} {n c : Nat} {l : List UInt8} (h : Bs w a n c l) :
    Calls Tryd.prog 19 #[.slice a n c] w fun e w' => e = .returned (.bool (vI l)) ∧ w = w' := by
  have hl := h.len
  have HR := Lib.hid (redundant_any h)
  have hR : 0 < n → redI l = !vI l := by
    intro h0
    rcases l with _ | ⟨x, _ | ⟨y, r⟩⟩
    · simp only [List.length_nil] at hl; omega
    · rfl
    · simp [redI]
  have h0 : ¬ 0 < n → vI l = false := by
    intro h0
    rcases l with _ | ⟨x, r⟩
    · rfl
    · simp only [List.length_cons] at hl; omega
  clear h hl
  by_cases hn : 0 < n
  · rw [hR hn] at HR
    have hn' : 0 < (n : Int) := by omega
    generalize vI l = v at *
    clear hR h0
    go_enter Tryd.func19, Tryd.ntmps19
    go_wp2_with (go_at_call 36; go_must (refine HR.out.mono ?_); rintro e w' ⟨rfl, rfl⟩)
    go_ret
    exact ⟨by simp, rfl⟩
  · rw [h0 hn]
    have hn' : ¬ 0 < (n : Int) := by omega
    clear hR h0 HR
    go_enter Tryd.func19, Tryd.ntmps19
    go_wp2
    go_ret
    exact ⟨rfl, rfl⟩

/-- the part lies where the whole lies -/
def PartOf (a' a : Option Addr) : Prop := ∀ x', a' = some x' → ∃ x, a = some x ∧ x.block = x'.block
theorem PartOf.refl (a : Option Addr) : PartOf a a := fun x' h => ⟨x', h, rfl⟩
theorem PartOf.trans {a b c : Option Addr} (h : PartOf a b) (k : PartOf b c) : PartOf a c := fun x hx => by
  obtain ⟨y, hy, e⟩ := h x hx
  obtain ⟨z, hz, e2⟩ := k y hy
  exact ⟨z, hz, by rw [e2, e]⟩
theorem PartOf.drop (b off i c : Nat) : PartOf (if c = i then some ⟨b, off, none⟩ else some ⟨b, off + i, none⟩) (some ⟨b, off, none⟩) := fun x hx => by
  refine ⟨_, rfl, ?_⟩
  split at hx <;> injection hx with hx <;> subst hx <;> rfl
theorem strip_red {x y : UInt8} {r : List UInt8} (h : redI (x :: y :: r) = true) : stripI (x :: y :: r) = stripI (y :: r) := by
  have : vI (x :: y :: r) = false := by simpa [redI] using h
  rw [stripI, if_neg (by simp [this])]
theorem strip_not {l : List UInt8} (h : redI l = false) : stripI l = l := by
  rcases l with _ | ⟨x, _ | ⟨y, r⟩⟩
  · rfl
  · rfl
  · have : vI (x :: y :: r) = true := by simpa [redI] using h
    rw [stripI, if_pos this]

set_option maxHeartbeats 1000000 in
theorem shortest_any {w : World} {a : Option Addr} {n c : Nat} {l : List UInt8} (h : Bs w a n c l) :
    Calls Tryd.prog 37 #[.slice a n c] w fun e w' => (∃ a' c', e = .returned (.slice a' (stripI l).length c') ∧ Bs w a' (stripI l).length c' (stripI l) ∧ PartOf a' a) ∧ w = w' := by
  have HR := Lib.hid (fun a n c l (h : Bs w a n c l) => redundant_any h)
  go_enter Tryd.func37, Tryd.ntmps37
  go_wp2
  go_loop [0] (fun v => ∃ a' n' c' l', v = .slice a' n' c' ∧ Bs w a' n' c' l' ∧ stripI l' = stripI l ∧ PartOf a' a) (fun v => lenOfV v)
  case atStart => exact ⟨a, n, c, l, rfl, h, rfl, PartOf.refl _⟩
  case round =>
    obtain ⟨a', n', c', l', rfl, hb, he, hp⟩ := hrel
    have HE := Lib.hid he
    have HP := Lib.hid hp
    have HL := Lib.hid hb.len
    have hcc := hb.2.1
    have hcm := hb.2.2.1
    unfold maxLen at hcm
    have HBS := Lib.hid hb
    have HX := Lib.hid (HR.out _ _ _ _ hb)
    clear he hp hb
    by_cases hr : redI l' = true
    · rcases l' with _ | ⟨x, _ | ⟨y, r⟩⟩
      · simp [redI] at hr
      · simp [redI] at hr
      · have hn2 : 2 ≤ n' := by have := HL.out; simp only [List.length_cons] at this; omega
        obtain ⟨b, off, _, rfl, _, _⟩ := HBS.out.at_ (i := 0) (by omega)
        have HD := Lib.hid (bs_drop HBS.out (i := 1) (by omega))
        have HS := Lib.hid (strip_red hr)
        rw [hr] at HX
        clear hr
        have hc1 : ¬ c' = 1 := by omega
        rw [if_neg hc1] at HD
        have HPD := Lib.hid (PartOf.drop b off 1 c')
        rw [if_neg hc1] at HPD
        go_wp2_with (go_at_call 36; go_must (refine HX.out.mono ?_); rintro e w' ⟨rfl, rfl⟩)
        exact ⟨⟨_, _, _, y :: r, rfl, HD.out, by rw [← HS.out]; exact HE.out, HPD.out.trans HP.out⟩, by simp [lenOfV]; omega⟩
    · have hr' : redI l' = false := by simpa using hr
      rw [hr'] at HX
      have HS := Lib.hid (strip_not hr')
      clear hr hr'
      go_wp2_with (go_at_call 36; go_must (refine HX.out.mono ?_); rintro e w' ⟨rfl, rfl⟩)
      go_ret
      have e1 : stripI l = l' := by rw [← HE.out, HS.out]
      rw [e1]
      have e2 := HL.out
      subst e2
      exact ⟨⟨_, _, rfl, HBS.out, HP.out⟩, rfl⟩
end Go.Proofs.YtammegdfjgphkaaDoor
