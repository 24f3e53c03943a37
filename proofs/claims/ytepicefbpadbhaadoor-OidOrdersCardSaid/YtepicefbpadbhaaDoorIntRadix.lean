/-
  Plain mathematics: digits to any base, groups of digits, changing the base.
-/
import Derived.Test.YtepicefbpadbhaaDoorIntMath2
namespace Go.Proofs.YtepicefbpadbhaaDoor

/-- the number with the digits l to the base b -/
def dgv (b : Nat) (l : List UInt8) : Nat := l.foldl (fun n x => n * b + x.toNat) 0
theorem dgv_snoc (b : Nat) (l : List UInt8) (x : UInt8) : dgv b (l ++ [x]) = dgv b l * b + x.toNat := by
  unfold dgv
  rw [List.foldl_append]
  rfl
theorem dgv_nil (b : Nat) : dgv b [] = 0 := rfl
theorem dgv_fold (b : Nat) (l : List UInt8) : ∀ n : Nat, l.foldl (fun n x => n * b + x.toNat) n = n * b ^ l.length + dgv b l := by
  induction l with
  | nil => intro n; simp [dgv]
  | cons x l ih =>
    intro n
    unfold dgv
    rw [List.foldl_cons, List.foldl_cons, ih, ih (0 * b + x.toNat), List.length_cons, Nat.pow_succ]
    rw [Nat.add_mul, Nat.add_mul, Nat.zero_mul, Nat.zero_mul, Nat.zero_add, Nat.mul_assoc, Nat.mul_comm b, Nat.add_assoc]
theorem dgv_cons (b : Nat) (x : UInt8) (l : List UInt8) : dgv b (x :: l) = x.toNat * b ^ l.length + dgv b l := by
  show (x :: l).foldl _ 0 = _
  rw [List.foldl_cons, dgv_fold]
  simp
theorem dgv_256 (l : List UInt8) : dgv 256 l = bnum l := rfl
theorem dgv_take (b : Nat) (l : List UInt8) {k : Nat} (h : k < l.length) : dgv b (l.take (k + 1)) = dgv b (l.take k) * b + l[k].toNat := by
  rw [List.take_succ_eq_append_getElem h, dgv_snoc]
theorem dgv_zero (b : Nat) (l : List UInt8) : dgv b (0 :: l) = dgv b l := by
  rw [dgv_cons]
  simp
/-- without zeros at the beginning -/
def trimZ : List UInt8 → List UInt8
  | [] => []
  | x :: l => if x = 0 then trimZ l else x :: l
theorem dgv_trim (b : Nat) : ∀ l, dgv b (trimZ l) = dgv b l
  | [] => rfl
  | x :: l => by
    unfold trimZ
    by_cases h : x = 0
    · subst h
      rw [if_pos rfl, dgv_trim b l, dgv_zero]
    · rw [if_neg h]
theorem trim_all {p : UInt8 → Bool} : ∀ l, l.all p = true → (trimZ l).all p = true
  | [], h => h
  | x :: l, h => by
    unfold trimZ
    by_cases h0 : x = 0
    · rw [if_pos h0]
      exact trim_all l (by simp only [List.all_cons, Bool.and_eq_true] at h; exact h.2)
    · rw [if_neg h0]
      exact h
theorem trim_head : ∀ l, (trimZ l).head? ≠ some 0
  | [] => by simp [trimZ]
  | x :: l => by
    unfold trimZ
    by_cases h : x = 0
    · rw [if_pos h]
      exact trim_head l
    · rw [if_neg h]
      simpa using h
theorem trim_len : ∀ l, (trimZ l).length ≤ l.length
  | [] => Nat.le_refl _
  | x :: l => by
    unfold trimZ
    by_cases h : x = 0
    · rw [if_pos h]
      have := trim_len l
      simp only [List.length_cons]
      omega
    · rw [if_neg h]
      exact Nat.le_refl _

/-! ### groups of digits -/
/-- the number with the groups L, the highest first -/
def gval (G : Nat) (L : List Nat) : Nat := L.foldl (fun n x => n * G + x) 0
theorem gval_snoc (G : Nat) (L : List Nat) (x : Nat) : gval G (L ++ [x]) = gval G L * G + x := by
  unfold gval
  rw [List.foldl_append]
  rfl
theorem gval_take (G : Nat) (L : List Nat) {k : Nat} (h : k < L.length) : gval G (L.take (k + 1)) = gval G (L.take k) * G + L[k] := by
  rw [List.take_succ_eq_append_getElem h, gval_snoc]
/-- the groups, filled by the first i digits (B ahead of a group's digits; s digits a group) -/
def Grp (b s : Nat) (l : List UInt8) (i : Nat) (L : List Nat) : Prop :=
  L.length = (l.length + s - 1) / s ∧
  if i < l.length then ∃ P p, L = P ++ p :: List.replicate ((l.length - 1 - i) / s) 0 ∧ (∀ x ∈ P, x < b ^ s) ∧ p < b ^ (s - 1 - (l.length - 1 - i) % s) ∧
      gval (b ^ s) P * b ^ (s - 1 - (l.length - 1 - i) % s) + p = dgv b (l.take i)
  else (∀ x ∈ L, x < b ^ s) ∧ gval (b ^ s) L = dgv b l
theorem grp_start {b s : Nat} (hb : 1 ≤ b) (hs : 1 ≤ s) (l : List UInt8) : Grp b s l 0 (List.replicate ((l.length + s - 1) / s) 0) := by
  refine ⟨by simp, ?_⟩
  by_cases h : 0 < l.length
  · rw [if_pos h]
    obtain ⟨m, hm⟩ : ∃ m, l.length = m + 1 := ⟨l.length - 1, by omega⟩
    have e : (l.length + s - 1) / s = (l.length - 1 - 0) / s + 1 := by
      rw [hm, show m + 1 + s - 1 = m + s from by omega, Nat.add_div_right _ hs, show m + 1 - 1 - 0 = m from by omega]
    refine ⟨[], 0, ?_, by simp, Nat.pow_pos hb, ?_⟩
    · rw [e, List.replicate_succ]
      rfl
    · simp [gval, dgv]
  · rw [if_neg h]
    have h0 : l.length = 0 := by omega
    have hl : l = [] := List.eq_nil_of_length_eq_zero h0
    subst hl
    have e : ((([] : List UInt8)).length + s - 1) / s = 0 := by
      simp only [List.length_nil]
      exact Nat.div_eq_of_lt (by omega)
    rw [e]
    exact ⟨by simp, rfl⟩
theorem div_pred {m s : Nat} (hs : 1 ≤ s) : (m + 1) % s ≠ 0 → m / s = (m + 1) / s ∧ m % s + 1 = (m + 1) % s := by
  intro h
  have h1 := Nat.div_add_mod (m + 1) s
  have h2 := Nat.mod_lt (m + 1) (show 0 < s from hs)
  generalize (m + 1) / s = q at *
  generalize (m + 1) % s = r at *
  have h3 : m = s * q + (r - 1) := by omega
  have h4 : m / s = q := by
    rw [h3, Nat.mul_add_div hs, Nat.div_eq_of_lt (by omega)]
    rfl
  refine ⟨h4, ?_⟩
  have h5 := Nat.div_add_mod m s
  rw [h4] at h5
  omega
theorem div_pred0 {m s : Nat} (hs : 1 ≤ s) : (m + 1) % s = 0 → m / s + 1 = (m + 1) / s ∧ m % s = s - 1 := by
  intro h
  have h1 := Nat.div_add_mod (m + 1) s
  rw [h, Nat.add_zero] at h1
  have hq : 1 ≤ (m + 1) / s := by
    rcases Nat.eq_zero_or_pos ((m + 1) / s) with h0 | h0
    · rw [h0] at h1; simp at h1
    · exact h0
  obtain ⟨q, hq'⟩ : ∃ q, (m + 1) / s = q + 1 := ⟨(m + 1) / s - 1, by omega⟩
  rw [hq', Nat.mul_succ] at h1
  have h3 : m = s * q + (s - 1) := by omega
  have h4 : m / s = q := by
    rw [h3, Nat.mul_add_div hs, Nat.div_eq_of_lt (by omega)]
    rfl
  refine ⟨by rw [h4, hq'], ?_⟩
  have h5 := Nat.div_add_mod m s
  rw [h4] at h5
  omega
/-- a further digit -/
theorem grp_step {b s : Nat} (hb : 1 ≤ b) (hs : 1 ≤ s) {l : List UInt8} {i : Nat} {L : List Nat} (h : Grp b s l i L) (hi : i < l.length) (hd : l[i].toNat < b) :
    ∃ at_ p, at_ + 1 + (l.length - 1 - i) / s = (l.length + s - 1) / s ∧ (∃ hk : at_ < L.length, L[at_] = p) ∧ p * b + l[i].toNat < b ^ s ∧ Grp b s l (i + 1) (L.set at_ (p * b + l[i].toNat)) := by
  obtain ⟨hlen, h⟩ := h
  rw [if_pos hi] at h
  obtain ⟨P, p, rfl, hP, hp, hv⟩ := h
  have hmod := Nat.mod_lt (l.length - 1 - i) (show 0 < s from hs)
  have hlen2 : P.length + 1 + (l.length - 1 - i) / s = (l.length + s - 1) / s := by rw [← hlen]; simp; omega
  have hp2 : p * b + l[i].toNat < b ^ (s - (l.length - 1 - i) % s) := by
    rw [show s - (l.length - 1 - i) % s = (s - 1 - (l.length - 1 - i) % s) + 1 from by omega, Nat.pow_succ]
    have := Nat.mul_le_mul_right b (show p + 1 ≤ b ^ (s - 1 - (l.length - 1 - i) % s) from hp)
    rw [Nat.add_mul] at this
    omega
  have hv2 : gval (b ^ s) P * b ^ (s - (l.length - 1 - i) % s) + (p * b + l[i].toNat) = dgv b (l.take (i + 1)) := by
    rw [dgv_take b l hi, ← hv, show s - (l.length - 1 - i) % s = (s - 1 - (l.length - 1 - i) % s) + 1 from by omega, Nat.pow_succ, Nat.add_mul, Nat.mul_assoc]
    omega
  have hset : (P ++ p :: List.replicate ((l.length - 1 - i) / s) 0).set P.length (p * b + l[i].toNat) = P ++ (p * b + l[i].toNat) :: List.replicate ((l.length - 1 - i) / s) 0 := by
    rw [List.set_append_right _ _ (Nat.le_refl _), Nat.sub_self]
    rfl
  have hlt : p * b + l[i].toNat < b ^ s := Nat.lt_of_lt_of_le hp2 (Nat.pow_le_pow_right hb (by omega))
  refine ⟨P.length, p, hlen2, ⟨by simp, by simp⟩, hlt, ?_⟩
  rw [hset]
  generalize p * b + l[i].toNat = q at *
  refine ⟨by simp; omega, ?_⟩
  by_cases hi2 : i + 1 < l.length
  · rw [if_pos hi2]
    obtain ⟨m, hm⟩ : ∃ m, l.length - 1 - i = m + 1 := ⟨l.length - 1 - (i + 1), by omega⟩
    have hm2 : l.length - 1 - (i + 1) = m := by omega
    rw [hm2]
    rw [hm] at hp2 hv2 ⊢
    by_cases hz : (m + 1) % s = 0
    · obtain ⟨e1, e2⟩ := div_pred0 hs hz
      rw [hz, Nat.sub_zero] at hp2 hv2
      refine ⟨P ++ [q], 0, ?_, ?_, ?_, ?_⟩
      · rw [← e1, List.replicate_succ]
        simp
      · intro x hx
        rcases List.mem_append.1 hx with hx | hx
        · exact hP x hx
        · simp only [List.mem_singleton] at hx
          subst hx
          exact hlt
      · rw [e2, Nat.sub_self]
        exact Nat.pow_pos hb
      · rw [e2, Nat.sub_self, Nat.pow_zero, gval_snoc, hv2]
        omega
    · obtain ⟨e1, e2⟩ := div_pred hs hz
      have e3 : s - 1 - m % s = s - (m + 1) % s := by omega
      refine ⟨P, q, by rw [e1], hP, ?_, ?_⟩
      · rw [e3]; exact hp2
      · rw [e3]; exact hv2
  · rw [if_neg hi2]
    have h0 : l.length - 1 - i = 0 := by omega
    rw [h0] at hp2 hv2 ⊢
    rw [Nat.zero_mod, Nat.sub_zero] at hp2 hv2
    have e : List.replicate (0 / s) (0 : Nat) = [] := by simp
    rw [e]
    refine ⟨?_, ?_⟩
    · intro x hx
      rcases List.mem_append.1 hx with hx | hx
      · exact hP x hx
      · simp only [List.mem_singleton] at hx
        subst hx
        exact hlt
    · rw [gval_snoc, hv2, List.take_of_length_le (by omega)]
theorem grp_end {b s : Nat} {l : List UInt8} {i : Nat} {L : List Nat} (h : Grp b s l i L) (hi : ¬ i < l.length) : (∀ x ∈ L, x < b ^ s) ∧ gval (b ^ s) L = dgv b l := by
  have := h.2
  rwa [if_neg hi] at this

/-! ### the groups of the result, from the lowest one on -/
def lval (G : Nat) : List Nat → Nat
  | [] => 0
  | x :: L => x + G * lval G L
theorem lval_snoc (G : Nat) (x : Nat) : ∀ L, lval G (L ++ [x]) = lval G L + x * G ^ L.length
  | [] => by simp [lval]
  | y :: L => by
    show y + G * lval G (L ++ [x]) = _
    rw [lval_snoc G x L, Nat.mul_add, List.length_cons, Nat.pow_succ]
    show _ = y + G * lval G L + _
    rw [show G * (x * G ^ L.length) = x * (G ^ L.length * G) from by rw [Nat.mul_left_comm, Nat.mul_comm G, ]]
    omega
theorem lval_lt {G : Nat} (hG : 1 ≤ G) : ∀ L, (∀ x ∈ L, x < G) → lval G L < G ^ L.length
  | [], _ => by simp [lval]
  | x :: L, h => by
    have h1 := lval_lt hG L (fun y hy => h y (List.mem_cons_of_mem _ hy))
    have h2 := h x (List.mem_cons_self)
    show x + G * lval G L < _
    rw [List.length_cons, Nat.pow_succ]
    have := Nat.mul_le_mul_left G (show lval G L + 1 ≤ G ^ L.length from h1)
    rw [Nat.mul_add, Nat.mul_comm G (G ^ _)] at this
    omega
/-- one place of the result multiplied, with what is carried -/
theorem mul_place {F G c x : Nat} (hc : c < F) (hx : x < G) : c + x * F < G * F ∧ (c + x * F) / G < F ∧ (c + x * F) % G < G := by
  have hG : 0 < G := by omega
  have h1 : x * F + F ≤ G * F := by
    rw [← Nat.succ_mul]
    exact Nat.mul_le_mul_right F hx
  refine ⟨by omega, ?_, Nat.mod_lt _ hG⟩
  rw [Nat.div_lt_iff_lt_mul hG, Nat.mul_comm F G]
  omega
/-- the value so far: the places multiplied up to k, and the carry -/
theorem mul_step {G F c x k : Nat} {D : Nat} (T : Nat) (h : T + c * G ^ k = D) : T + ((c + x * F) % G) * G ^ k + ((c + x * F) / G) * G ^ (k + 1) = D + x * G ^ k * F := by
  have := Nat.div_add_mod (c + x * F) G
  generalize (c + x * F) / G = q at *
  generalize (c + x * F) % G = r at *
  rw [Nat.pow_succ]
  have e : r * G ^ k + q * (G ^ k * G) = (G * q + r) * G ^ k := by
    rw [Nat.add_mul, Nat.mul_comm G q, Nat.mul_assoc, Nat.mul_comm G]
    omega
  have e2 : (c + x * F) * G ^ k = c * G ^ k + x * G ^ k * F := by
    rw [Nat.add_mul, Nat.mul_assoc, Nat.mul_assoc, Nat.mul_comm F]
  rw [← h]
  have e3 : T + r * G ^ k + q * (G ^ k * G) = T + (r * G ^ k + q * (G ^ k * G)) := by omega
  rw [e3, e, this, e2]
  omega
end Go.Proofs.YtepicefbpadbhaaDoor
