/-
  Plain mathematics: numbers with big-endian digits.
-/
namespace Go.Proofs.YtepicefbpadbhaaDoor

/-- the number with the big-endian digits l -/
def bnum (l : List UInt8) : Nat := l.foldl (fun n x => n * 256 + x.toNat) 0
theorem bnum_fold (l : List UInt8) : ∀ n : Nat, l.foldl (fun n x => n * 256 + x.toNat) n = n * 256 ^ l.length + bnum l := by
  induction l with
  | nil => intro n; simp [bnum]
  | cons x l ih =>
    intro n
    unfold bnum
    rw [List.foldl_cons, List.foldl_cons, ih, ih (0 * 256 + x.toNat), List.length_cons, Nat.pow_succ]
    rw [Nat.add_mul, Nat.add_mul, Nat.zero_mul, Nat.zero_add, Nat.mul_assoc, Nat.mul_comm 256, Nat.add_assoc]
theorem bnum_nil : bnum [] = 0 := rfl
theorem bnum_cons (x : UInt8) (l : List UInt8) : bnum (x :: l) = x.toNat * 256 ^ l.length + bnum l := by
  show (x :: l).foldl _ 0 = _
  rw [List.foldl_cons, bnum_fold]
  simp
theorem bnum_append (l r : List UInt8) : bnum (l ++ r) = bnum l * 256 ^ r.length + bnum r := by
  show (l ++ r).foldl _ 0 = _
  rw [List.foldl_append, bnum_fold]
  rfl
theorem bnum_snoc (l : List UInt8) (x : UInt8) : bnum (l ++ [x]) = bnum l * 256 + x.toNat := by
  rw [bnum_append, bnum_cons]
  simp [bnum_nil]
theorem bnum_lt (l : List UInt8) : bnum l < 256 ^ l.length := by
  induction l with
  | nil => simp [bnum_nil]
  | cons x l ih =>
    rw [bnum_cons, List.length_cons, Nat.pow_succ]
    have hx := x.toNat_lt
    have h1 : x.toNat * 256 ^ l.length + 256 ^ l.length ≤ 256 ^ l.length * 256 := by
      rw [← Nat.succ_mul, Nat.mul_comm]
      exact Nat.mul_le_mul (Nat.le_refl _) (by omega)
    omega
theorem bnum_take (l : List UInt8) {k : Nat} (h : k < l.length) : bnum (l.take (k + 1)) = bnum (l.take k) * 256 + l[k].toNat := by
  rw [List.take_succ_eq_append_getElem h, bnum_snoc]
theorem bnum_take_le (l : List UInt8) (k : Nat) (hk : k < l.length) : bnum (l.take k) * 256 ≤ bnum l := by
  have h : bnum l = bnum (l.take k) * 256 ^ (l.length - k) + bnum (l.drop k) := by
    conv => lhs; rw [← List.take_append_drop k l]
    rw [bnum_append]
    simp
  have h2 : 256 ≤ 256 ^ (l.length - k) := by
    rw [show l.length - k = (l.length - k - 1) + 1 from by omega, Nat.pow_succ]
    exact Nat.le_mul_of_pos_left _ (Nat.pow_pos (by omega))
  have h3 := Nat.mul_le_mul (Nat.le_refl (bnum (l.take k))) h2
  omega

/-- 2^64, hidden -/
def two64 : Nat := 18446744073709551616
/-- what Uint returns -/
def uval (l : List UInt8) : Int := if bnum l < two64 then (bnum l : Int) else 0
def uok (l : List UInt8) : Bool := decide (bnum l < two64)
theorem uval_lt {l : List UInt8} {n : Nat} (e : bnum l = n) (h : n < two64) : (n : Int) = uval l := by unfold uval; rw [e, if_pos h]
theorem uok_lt {l : List UInt8} {n : Nat} (e : bnum l = n) (h : n < two64) : true = uok l := by unfold uok; rw [e]; simp [h]
theorem uval_ge {l : List UInt8} (h : two64 ≤ bnum l) : 0 = uval l := by unfold uval; rw [if_neg (by omega)]
theorem uok_ge {l : List UInt8} (h : two64 ≤ bnum l) : false = uok l := by unfold uok; simp; omega
theorem two64_of {l : List UInt8} {k n : Nat} (hk : k < l.length) (e : bnum (l.take k) = n) (h : 72057594037927936 ≤ n) : two64 ≤ bnum l := by
  have := bnum_take_le l k hk
  unfold two64
  omega
theorem byte_step {n d : Nat} (h : n < 72057594037927936) (hd : d < 256) : n * 256 + d < 18446744073709551616 := by omega

/-- leading zeros do not count -/
theorem bnum_zero (l : List UInt8) : bnum (0 :: l) = bnum l := by rw [bnum_cons]; simp
theorem bnum_big {x : UInt8} {l : List UInt8} (hx : x ≠ 0) (h : 8 ≤ l.length) : two64 ≤ bnum (x :: l) := by
  rw [bnum_cons]
  have h1 : 1 ≤ x.toNat := by
    rcases Nat.eq_zero_or_pos x.toNat with h | h
    · exact absurd (UInt8.toNat_inj.1 (by simpa using h)) hx
    · exact h
  have h2 : 256 ^ 8 ≤ 256 ^ l.length := Nat.pow_le_pow_right (by omega) h
  have h3 := Nat.mul_le_mul h1 h2
  have h4 : (256 : Nat) ^ 8 = 18446744073709551616 := by decide
  unfold two64
  omega
theorem bnum_small {l : List UInt8} (h : l.length ≤ 8) : bnum l < two64 := by
  have h1 := bnum_lt l
  have h2 : 256 ^ l.length ≤ 256 ^ 8 := Nat.pow_le_pow_right (by omega) h
  have h4 : (256 : Nat) ^ 8 = 18446744073709551616 := by decide
  unfold two64
  omega
/-- fewer than eight digits -/
theorem prefix_lt {l : List UInt8} {k : Nat} (h : l.length ≤ 8) (hk : k < l.length) : bnum (l.take k) < 72057594037927936 := by
  have h1 := bnum_lt (l.take k)
  have h2 : 256 ^ (l.take k).length ≤ 256 ^ 7 := Nat.pow_le_pow_right (by omega) (by simp; omega)
  have h4 : (256 : Nat) ^ 7 = 72057594037927936 := by decide
  omega
end Go.Proofs.YtepicefbpadbhaaDoor
