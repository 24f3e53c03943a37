/-
  Plain mathematics of the bit string layer: bits of octets from the highest one on; sets of bits; contents octets.
-/
namespace Go.Proofs.Ytfflfahhfhnkdaa

/-! ### an octet and its bits -/
def bt (b : Bool) : Nat := if b = true then 1 else 0
theorem bt_le (b : Bool) : bt b ≤ 1 := by cases b <;> decide
/-- the octet with the bits f(8 j), .., f(8 j + 7), the first one of the highest value -/
def rb (f : Nat → Bool) (j : Nat) : Nat :=
  128 * bt (f (8 * j)) + 64 * bt (f (8 * j + 1)) + 32 * bt (f (8 * j + 2)) + 16 * bt (f (8 * j + 3)) + 8 * bt (f (8 * j + 4)) + 4 * bt (f (8 * j + 5)) + 2 * bt (f (8 * j + 6)) + bt (f (8 * j + 7))
theorem rb_lt (f : Nat → Bool) (j : Nat) : rb f j < 256 := by
  have h0 := bt_le (f (8 * j)); have h1 := bt_le (f (8 * j + 1)); have h2 := bt_le (f (8 * j + 2)); have h3 := bt_le (f (8 * j + 3))
  have h4 := bt_le (f (8 * j + 4)); have h5 := bt_le (f (8 * j + 5)); have h6 := bt_le (f (8 * j + 6)); have h7 := bt_le (f (8 * j + 7))
  unfold rb
  omega
theorem bits8 (a b c d e f g h : Bool) (k : Nat) (hk : k < 8) :
    (128 * bt a + 64 * bt b + 32 * bt c + 16 * bt d + 8 * bt e + 4 * bt f + 2 * bt g + bt h) / 2 ^ (7 - k) % 2 = bt ([a, b, c, d, e, f, g, h][k]?.getD false) := by
  rcases k with _ | _ | _ | _ | _ | _ | _ | _ | k
  all_goals first | (cases a <;> cases b <;> cases c <;> cases d <;> cases e <;> cases f <;> cases g <;> cases h <;> rfl) | omega
/-- the bit i of a byte string, from the highest one of its first octet on -/
def bitL (l : List UInt8) (i : Nat) : Bool := match l[i / 8]? with
  | none => false
  | some x => x.toNat / 2 ^ (7 - i % 8) % 2 == 1
theorem bitL_at {l : List UInt8} {i : Nat} (h : i / 8 < l.length) : bitL l i = (l[i / 8].toNat / 2 ^ (7 - i % 8) % 2 == 1) := by
  unfold bitL
  rw [List.getElem?_eq_getElem h]
theorem bitL_out {l : List UInt8} {i : Nat} (h : l.length ≤ i / 8) : bitL l i = false := by
  unfold bitL
  rw [List.getElem?_eq_none h]
theorem bt_beq (n : Nat) : bt (n % 2 == 1) = n % 2 := by
  rcases (by omega : n % 2 = 0 ∨ n % 2 = 1) with h | h <;> rw [h] <;> rfl
theorem rb_bits {l : List UInt8} {j : Nat} (h : j < l.length) : rb (bitL l) j = l[j].toNat := by
  have e : ∀ k, k < 8 → bt (bitL l (8 * j + k)) = l[j].toNat / 2 ^ (7 - k) % 2 := by
    intro k hk
    have h1 : (8 * j + k) / 8 = j := by omega
    have h2 : (8 * j + k) % 8 = k := by omega
    rw [bitL_at (by omega), bt_beq]
    simp only [h1, h2]
  have e0 := e 0 (by omega)
  rw [Nat.add_zero] at e0
  unfold rb
  rw [e0, e 1 (by omega), e 2 (by omega), e 3 (by omega), e 4 (by omega), e 5 (by omega), e 6 (by omega), e 7 (by omega)]
  have hb := l[j].toNat_lt
  generalize l[j].toNat = x at *
  simp only [Nat.sub_zero, Nat.reduceSub, Nat.reducePow]
  omega
/-- k octets with the bits f -/
def bytesF (f : Nat → Bool) (k : Nat) : List UInt8 := (List.range k).map (fun j => UInt8.ofNat (rb f j))
theorem bytesF_len (f : Nat → Bool) (k : Nat) : (bytesF f k).length = k := by simp [bytesF]
theorem bytesF_get {f : Nat → Bool} {k j : Nat} (h : j < k) : (bytesF f k)[j]'(by rw [bytesF_len]; exact h) = UInt8.ofNat (rb f j) := by simp [bytesF]
theorem byte_nat {n : Nat} (h : n < 256) : (UInt8.ofNat n).toNat = n := by rw [UInt8.toNat_ofNat']; omega
theorem bytesF_nat {f : Nat → Bool} {k j : Nat} (h : j < k) : ((bytesF f k)[j]'(by rw [bytesF_len]; exact h)).toNat = rb f j := by
  rw [bytesF_get h, byte_nat (rb_lt f j)]
theorem bitL_bytesF {f : Nat → Bool} {k i : Nat} (h : i < 8 * k) : bitL (bytesF f k) i = f i := by
  have h1 : i / 8 < k := by omega
  rw [bitL_at (by rw [bytesF_len]; exact h1), bytesF_nat h1]
  unfold rb
  rw [bits8 _ _ _ _ _ _ _ _ _ (Nat.mod_lt _ (by omega))]
  have h2 : i = 8 * (i / 8) + i % 8 := by omega
  have h3 : i % 8 < 8 := Nat.mod_lt _ (by omega)
  obtain ⟨r, hr⟩ : ∃ r, i % 8 = r := ⟨_, rfl⟩
  obtain ⟨q, hq⟩ : ∃ q, i / 8 = q := ⟨_, rfl⟩
  rw [hr, hq] at h2
  rw [hr] at h3
  rw [hr, hq, h2]
  rcases r with _ | _ | _ | _ | _ | _ | _ | _ | r
  all_goals first | omega | (simp only [List.getElem?_cons_zero, List.getElem?_cons_succ, Option.getD_some, Nat.add_zero, Nat.zero_add, Nat.reduceAdd]; cases f _ <;> rfl)
theorem bytesF_bits {l : List UInt8} : bytesF (bitL l) l.length = l := by
  apply List.ext_getElem
  · rw [bytesF_len]
  · intro j h1 h2
    rw [bytesF_get h2, rb_bits h2, UInt8.ofNat_toNat]
theorem rb_congr {f g : Nat → Bool} {j : Nat} (h : ∀ k, k < 8 → f (8 * j + k) = g (8 * j + k)) : rb f j = rb g j := by
  have h0 := h 0 (by omega)
  rw [Nat.add_zero] at h0
  unfold rb
  rw [h0, h 1 (by omega), h 2 (by omega), h 3 (by omega), h 4 (by omega), h 5 (by omega), h 6 (by omega), h 7 (by omega)]
theorem bytesF_congr {f g : Nat → Bool} {k : Nat} (h : ∀ i, i < 8 * k → f i = g i) : bytesF f k = bytesF g k := by
  apply List.ext_getElem
  · rw [bytesF_len, bytesF_len]
  · intro j h1 h2
    rw [bytesF_len] at h1
    rw [bytesF_get h1, bytesF_get h1, rb_congr (fun k hk => h _ (by omega))]
/-- two byte strings of one length with the same bits -/
theorem bitL_ext {l r : List UInt8} (hl : l.length = r.length) (h : ∀ i, i < 8 * l.length → bitL l i = bitL r i) : l = r := by
  rw [← bytesF_bits (l := l), ← bytesF_bits (l := r), ← hl]
  exact bytesF_congr h
/-- one bit more -/
def withBit (f : Nat → Bool) (i : Nat) : Nat → Bool := fun t => f t || (t == i)
theorem rb_with {f : Nat → Bool} {i : Nat} (h : f i = false) : rb (withBit f i) (i / 8) = rb f (i / 8) + 2 ^ (7 - i % 8) := by
  have h2 : i = 8 * (i / 8) + i % 8 := by omega
  have h3 : i % 8 < 8 := Nat.mod_lt _ (by omega)
  obtain ⟨r, hr⟩ : ∃ r, i % 8 = r := ⟨_, rfl⟩
  obtain ⟨q, hq⟩ : ∃ q, i / 8 = q := ⟨_, rfl⟩
  rw [hr, hq] at h2
  rw [hr] at h3
  rw [hr, hq]
  subst h2
  have hw : ∀ k, k < 8 → withBit f (8 * q + r) (8 * q + k) = if k = r then true else f (8 * q + k) := by
    intro k hk
    unfold withBit
    split
    · rename_i e
      subst e
      simp
    · rename_i e
      simp [e]
  have h0 := hw 0 (by omega)
  rw [Nat.add_zero] at h0
  unfold rb
  rw [h0, hw 1 (by omega), hw 2 (by omega), hw 3 (by omega), hw 4 (by omega), hw 5 (by omega), hw 6 (by omega), hw 7 (by omega)]
  have e1 : bt true = 1 := rfl
  have e0 : bt false = 0 := rfl
  clear hw h0 hr hq
  rcases r with _ | _ | _ | _ | _ | _ | _ | _ | r
  case succ => omega
  all_goals
    simp only [Nat.add_zero, Nat.zero_add, Nat.reduceAdd] at h
    simp [h, e0, e1]
    try omega
theorem rb_other {f : Nat → Bool} {i j : Nat} (h : j ≠ i / 8) : rb (withBit f i) j = rb f j := by
  apply rb_congr
  intro k hk
  unfold withBit
  have : ¬ (8 * j + k = i) := by omega
  simp [this]
theorem bytesF_with {f : Nat → Bool} {i k : Nat} (h : f i = false) :
    bytesF (withBit f i) k = (bytesF f k).set (i / 8) (UInt8.ofNat (rb f (i / 8) + 2 ^ (7 - i % 8))) := by
  apply List.ext_getElem
  · rw [List.length_set, bytesF_len, bytesF_len]
  · intro j h1 h2
    rw [bytesF_len] at h1
    rw [List.getElem_set, bytesF_get h1]
    split
    · rename_i e
      subst e
      rw [rb_with h]
    · rename_i e
      rw [rb_other (fun x => e x.symm), bytesF_get h1]
theorem bytesF_none (k : Nat) : bytesF (fun _ => false) k = List.replicate k 0 := by
  apply List.ext_getElem
  · rw [bytesF_len, List.length_replicate]
  · intro j h1 h2
    rw [bytesF_len] at h1
    rw [bytesF_get h1, List.getElem_replicate]
    rfl
end Go.Proofs.Ytfflfahhfhnkdaa
