/-
  The model's own runes (a range over a string; a rune made into a string) against ChMath's UTF-8. Plain mathematics.
-/
import Derived.Test.YtkmpmphabohkkaaDoorChMath
import Derived.Laws.RangeAny
namespace Go.Proofs.YtkmpmphabohkkaaDoor

theorem get_app (pre l : List UInt8) {k : Nat} (h : k < l.length) : ((⟨(pre ++ l).toArray⟩ : ByteArray).get! (pre.length + k)) = l[k] := by
  show (pre ++ l).toArray[pre.length + k]! = _
  rw [getElem!_pos _ _ (by simp; omega)]
  simp
theorem valid_scal {x : Nat} : Utf8.valid (x : Int) = scal x := by
  rw [Bool.eq_iff_iff, scal_true]
  unfold Utf8.valid
  simp
  omega
theorem encode_scal {x : Nat} (h : scal x = true) : Utf8.encode (x : Int) = ⟨(u8O x).toArray⟩ := by
  unfold Utf8.encode
  rw [valid_scal, h]
  simp only [if_true, Int.toNat_natCast]
  by_cases h1 : x < 128
  · rw [if_pos h1, u8O_1 h h1]; rfl
  rw [if_neg h1]
  by_cases h2 : x < 2048
  · rw [if_pos h2, u8O_2 h h1 h2]; rfl
  rw [if_neg h2]
  by_cases h3 : x < 65536
  · rw [if_pos h3, u8O_3 h h2 h3]; rfl
  · rw [if_neg h3, u8O_4 h h3]; rfl
theorem size_app (pre l : List UInt8) : (⟨(pre ++ l).toArray⟩ : ByteArray).size = pre.length + l.length := by
  show (pre ++ l).toArray.size = _
  simp
/-- the model reads a code point where its octets stand -/
theorem decode_scal (pre r : List UInt8) {x : Nat} (h : scal x = true) : Utf8.decode ⟨(pre ++ (u8O x ++ r)).toArray⟩ pre.length = (x, (u8O x).length) := by
  have hv : Utf8.valid (x : Int) = true := by rw [valid_scal, h]
  have hx := scal_true.mp h
  by_cases h1 : x < 128
  · rw [u8O_1 h h1]
    have e0 := get_app pre ([by8 x] ++ r) (k := 0) (by simp)
    unfold Utf8.decode
    dsimp only
    have f0 : (by8 x).toNat = x := by8_nat (by omega)
    simp only [List.cons_append, List.getElem_cons_zero] at e0 ⊢
    simp only [e0, f0]
    rw [if_pos h1]
    rfl
  by_cases h2 : x < 2048
  · rw [u8O_2 h h1 h2]
    have hz := size_app pre ([by8 (192 + x / 64), by8 (128 + x % 64)] ++ r)
    have e0 := get_app pre ([by8 (192 + x / 64), by8 (128 + x % 64)] ++ r) (k := 0) (by simp)
    have e1 := get_app pre ([by8 (192 + x / 64), by8 (128 + x % 64)] ++ r) (k := 1) (by simp)
    simp only [List.cons_append, List.nil_append, List.length_cons, List.getElem_cons_zero, List.getElem_cons_succ] at hz e0 e1 ⊢
    unfold Utf8.decode
    dsimp only
    have f0 : (by8 (192 + x / 64)).toNat = 192 + x / 64 := by8_nat (by omega)
    have f1 : (by8 (128 + x % 64)).toNat = 128 + x % 64 := by8_nat (by omega)
    simp only [e0, e1, hz, f0, f1]
    have q : (192 + x / 64) % 32 * 64 + (128 + x % 64) % 64 = x := by omega
    simp only [q]
    rw [if_neg (by omega), if_pos (by simp; omega), if_pos (by omega)]
    rfl
  by_cases h3 : x < 65536
  · rw [u8O_3 h h2 h3]
    have hz := size_app pre ([by8 (224 + x / 4096), by8 (128 + x / 64 % 64), by8 (128 + x % 64)] ++ r)
    have e0 := get_app pre ([by8 (224 + x / 4096), by8 (128 + x / 64 % 64), by8 (128 + x % 64)] ++ r) (k := 0) (by simp)
    have e1 := get_app pre ([by8 (224 + x / 4096), by8 (128 + x / 64 % 64), by8 (128 + x % 64)] ++ r) (k := 1) (by simp)
    have e2 := get_app pre ([by8 (224 + x / 4096), by8 (128 + x / 64 % 64), by8 (128 + x % 64)] ++ r) (k := 2) (by simp)
    simp only [List.cons_append, List.nil_append, List.length_cons, List.getElem_cons_zero, List.getElem_cons_succ] at hz e0 e1 e2 ⊢
    unfold Utf8.decode
    dsimp only
    have f0 : (by8 (224 + x / 4096)).toNat = 224 + x / 4096 := by8_nat (by omega)
    have f1 : (by8 (128 + x / 64 % 64)).toNat = 128 + x / 64 % 64 := by8_nat (by omega)
    have f2 : (by8 (128 + x % 64)).toNat = 128 + x % 64 := by8_nat (by omega)
    simp only [e0, e1, e2, hz, f0, f1, f2]
    have q : (224 + x / 4096) % 16 * 4096 + (128 + x / 64 % 64) % 64 * 64 + (128 + x % 64) % 64 = x := by omega
    simp only [q, hv]
    rw [if_neg (by omega), if_neg (by simp; omega), if_pos (by simp; omega), if_pos (by simp; omega)]
    rfl
  · rw [u8O_4 h h3]
    have hz := size_app pre ([by8 (240 + x / 262144), by8 (128 + x / 4096 % 64), by8 (128 + x / 64 % 64), by8 (128 + x % 64)] ++ r)
    have e0 := get_app pre ([by8 (240 + x / 262144), by8 (128 + x / 4096 % 64), by8 (128 + x / 64 % 64), by8 (128 + x % 64)] ++ r) (k := 0) (by simp)
    have e1 := get_app pre ([by8 (240 + x / 262144), by8 (128 + x / 4096 % 64), by8 (128 + x / 64 % 64), by8 (128 + x % 64)] ++ r) (k := 1) (by simp)
    have e2 := get_app pre ([by8 (240 + x / 262144), by8 (128 + x / 4096 % 64), by8 (128 + x / 64 % 64), by8 (128 + x % 64)] ++ r) (k := 2) (by simp)
    have e3 := get_app pre ([by8 (240 + x / 262144), by8 (128 + x / 4096 % 64), by8 (128 + x / 64 % 64), by8 (128 + x % 64)] ++ r) (k := 3) (by simp)
    simp only [List.cons_append, List.nil_append, List.length_cons, List.getElem_cons_zero, List.getElem_cons_succ] at hz e0 e1 e2 e3 ⊢
    unfold Utf8.decode
    dsimp only
    have f0 : (by8 (240 + x / 262144)).toNat = 240 + x / 262144 := by8_nat (by omega)
    have f1 : (by8 (128 + x / 4096 % 64)).toNat = 128 + x / 4096 % 64 := by8_nat (by omega)
    have f2 : (by8 (128 + x / 64 % 64)).toNat = 128 + x / 64 % 64 := by8_nat (by omega)
    have f3 : (by8 (128 + x % 64)).toNat = 128 + x % 64 := by8_nat (by omega)
    simp only [e0, e1, e2, e3, hz, f0, f1, f2, f3]
    have q : (240 + x / 262144) % 8 * 262144 + (128 + x / 4096 % 64) % 64 * 4096 + (128 + x / 64 % 64) % 64 * 64 + (128 + x % 64) % 64 = x := by omega
    simp only [q, hv]
    rw [if_neg (by omega), if_neg (by simp; omega), if_neg (by simp; omega), if_pos (by simp; omega), if_pos (by simp; omega)]
    rfl
theorem by8_self (b : UInt8) {n : Nat} (h : n = b.toNat) : by8 n = b := by
  subst h
  unfold by8
  simp
theorem bad1 {b0 : UInt8} {t : List UInt8} (h : headU (b0 :: t) = none) : ¬ b0.toNat < 128 := fun h1 => by
  have hs : scal b0.toNat = true := scal_true.mpr (by omega)
  have e := headU_enc hs t
  rw [u8O_1 hs h1, by8_self b0 rfl, List.singleton_append, h] at e
  cases e
theorem bad2 {b0 b1 : UInt8} {t : List UInt8} (h : headU (b0 :: b1 :: t) = none) (h0 : b0.toNat / 32 = 6) (h1 : b1.toNat / 64 = 2) : ¬ b0.toNat % 32 * 64 + b1.toNat % 64 ≥ 128 := fun hc => by
  have hs : scal (b0.toNat % 32 * 64 + b1.toNat % 64) = true := scal_true.mpr (by omega)
  have e := headU_enc hs t
  rw [u8O_2 hs (by omega) (by omega), by8_self b0 (by omega), by8_self b1 (by omega)] at e
  simp only [List.cons_append, List.nil_append, h] at e
  cases e
theorem bad3 {b0 b1 b2 : UInt8} {t : List UInt8} (h : headU (b0 :: b1 :: b2 :: t) = none) (h0 : b0.toNat / 16 = 14) (h1 : b1.toNat / 64 = 2) (h2 : b2.toNat / 64 = 2)
    (hs : scal (b0.toNat % 16 * 4096 + b1.toNat % 64 * 64 + b2.toNat % 64) = true) : ¬ b0.toNat % 16 * 4096 + b1.toNat % 64 * 64 + b2.toNat % 64 ≥ 2048 := fun hc => by
  have e := headU_enc hs t
  rw [u8O_3 hs (by omega) (by omega), by8_self b0 (by omega), by8_self b1 (by omega), by8_self b2 (by omega)] at e
  simp only [List.cons_append, List.nil_append, h] at e
  cases e
theorem bad4 {b0 b1 b2 b3 : UInt8} {t : List UInt8} (h : headU (b0 :: b1 :: b2 :: b3 :: t) = none) (h0 : b0.toNat / 8 = 30) (h1 : b1.toNat / 64 = 2) (h2 : b2.toNat / 64 = 2) (h3 : b3.toNat / 64 = 2)
    (hs : scal (b0.toNat % 8 * 262144 + b1.toNat % 64 * 4096 + b2.toNat % 64 * 64 + b3.toNat % 64) = true) : ¬ b0.toNat % 8 * 262144 + b1.toNat % 64 * 4096 + b2.toNat % 64 * 64 + b3.toNat % 64 ≥ 65536 := fun hc => by
  have e := headU_enc hs t
  rw [u8O_4 hs (by omega), by8_self b0 (by omega), by8_self b1 (by omega), by8_self b2 (by omega), by8_self b3 (by omega)] at e
  simp only [List.cons_append, List.nil_append, h] at e
  cases e
/-- and where no code point's octets stand it reads U+FFFD, one octet on -/
theorem decode_bad (pre : List UInt8) {l : List UInt8} (h : headU l = none) (hl : l ≠ []) : Utf8.decode ⟨(pre ++ l).toArray⟩ pre.length = (65533, 1) := by
  have hz := size_app pre l
  rcases l with _ | ⟨b0, t⟩
  · exact absurd rfl hl
  have e0 := get_app pre (b0 :: t) (k := 0) (by simp)
  have B1 := bad1 h
  rcases t with _ | ⟨b1, t⟩
  · simp only [List.length_cons, List.length_nil, Nat.zero_add, List.getElem_cons_zero] at hz e0
    have k1 : decide (pre.length + 1 < pre.length + 1) = false := decide_eq_false (by omega)
    unfold Utf8.decode
    dsimp only
    simp only [e0, hz, k1, Bool.false_and, Bool.and_false]
    rw [if_neg B1]
    rfl
  have e1 := get_app pre (b0 :: b1 :: t) (k := 1) (by simp)
  have B2 := bad2 h
  rcases t with _ | ⟨b2, t⟩
  · simp only [List.length_cons, List.length_nil, Nat.zero_add, List.getElem_cons_zero, List.getElem_cons_succ] at hz e0 e1
    have k2 : decide (pre.length + 2 < pre.length + (1 + 1)) = false := decide_eq_false (by omega)
    unfold Utf8.decode
    dsimp only
    simp only [e0, e1, hz, k2, Bool.false_and, Bool.and_false]
    rw [if_neg B1]
    split
    · rename_i hc
      simp only [Bool.and_eq_true, beq_iff_eq] at hc
      rw [if_neg (B2 hc.1 hc.2.2)]
      rfl
    · rfl
  have e2 := get_app pre (b0 :: b1 :: b2 :: t) (k := 2) (by simp)
  have B3 := bad3 h
  rcases t with _ | ⟨b3, t⟩
  · simp only [List.length_cons, List.length_nil, Nat.zero_add, List.getElem_cons_zero, List.getElem_cons_succ] at hz e0 e1 e2
    have k3 : decide (pre.length + 3 < pre.length + (1 + 1 + 1)) = false := decide_eq_false (by omega)
    unfold Utf8.decode
    dsimp only
    simp only [e0, e1, e2, hz, k3, Bool.false_and, Bool.and_false, valid_scal]
    rw [if_neg B1]
    split
    · rename_i hc
      simp only [Bool.and_eq_true, beq_iff_eq] at hc
      rw [if_neg (B2 hc.1 hc.2.2)]
      rfl
    split
    · rename_i hc
      simp only [Bool.and_eq_true, beq_iff_eq] at hc
      rw [if_neg (fun hd => by
        simp only [Bool.and_eq_true, decide_eq_true_eq] at hd
        exact B3 hc.1.1 hc.1.2.2 hc.2.2 hd.2 hd.1)]
      rfl
    · rfl
  have e3 := get_app pre (b0 :: b1 :: b2 :: b3 :: t) (k := 3) (by simp)
  have B4 := bad4 h
  simp only [List.getElem_cons_zero, List.getElem_cons_succ] at e0 e1 e2 e3
  unfold Utf8.decode
  dsimp only
  simp only [e0, e1, e2, e3, valid_scal]
  rw [if_neg B1]
  split
  · rename_i hc
    simp only [Bool.and_eq_true, beq_iff_eq] at hc
    rw [if_neg (B2 hc.1 hc.2.2)]
    rfl
  split
  · rename_i hc
    simp only [Bool.and_eq_true, beq_iff_eq] at hc
    rw [if_neg (fun hd => by
      simp only [Bool.and_eq_true, decide_eq_true_eq] at hd
      exact B3 hc.1.1 hc.1.2.2 hc.2.2 hd.2 hd.1)]
    rfl
  split
  · rename_i hc
    simp only [Bool.and_eq_true, beq_iff_eq] at hc
    rw [if_neg (fun hd => by
      simp only [Bool.and_eq_true, decide_eq_true_eq] at hd
      exact B4 hc.1.1.1 hc.1.1.2.2 hc.1.2.2 hc.2.2 hd.2 hd.1)]
    rfl
  · rfl
end Go.Proofs.YtkmpmphabohkkaaDoor
