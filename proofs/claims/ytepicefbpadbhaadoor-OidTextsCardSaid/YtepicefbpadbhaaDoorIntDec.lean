/-
  Plain mathematics: the opposite of a number in octets; decimal notation and its reading, as the program goes about it.
-/
import Derived.Test.YtepicefbpadbhaaDoorIntRadix
namespace Go.Proofs.YtepicefbpadbhaaDoor

/-! ### the opposite, octet by octet -/
/-- the last octets of the opposite (tl), with what is carried, of the last octets of c -/
theorem neg_step {c : List UInt8} {tl : List UInt8} {k C : Nat} (hk : k < c.length) (hl : tl.length = c.length - (k + 1)) (h : bnum tl + C * 256 ^ tl.length + bnum (c.drop (k + 1)) = 256 ^ tl.length) {y : UInt8} (hy : y.toNat = (C + (255 - c[k].toNat)) % 256) :
    bnum (y :: tl) + (C + (255 - c[k].toNat)) / 256 * 256 ^ (y :: tl).length + bnum (c.drop k) = 256 ^ (y :: tl).length := by
  have hx := c[k].toNat_lt
  have e : c.drop k = c[k] :: c.drop (k + 1) := by rw [List.drop_eq_getElem_cons hk]
  have hd : (c.drop (k + 1)).length = tl.length := by rw [List.length_drop]; omega
  rw [e, bnum_cons, bnum_cons, List.length_cons, hd, hy, Nat.pow_succ]
  have hb := bnum_lt tl
  have hb2 := bnum_lt (c.drop (k + 1))
  rw [hd] at hb2
  generalize c[k].toNat = x at *
  generalize bnum tl = T at *
  generalize bnum (c.drop (k + 1)) = D at *
  generalize 256 ^ tl.length = P at *
  have hm := Nat.div_add_mod (C + (255 - x)) 256
  generalize (C + (255 - x)) / 256 = q at *
  generalize (C + (255 - x)) % 256 = r at *
  have e1 : r * P + q * (P * 256) = (256 * q + r) * P := by
    rw [Nat.add_mul, Nat.mul_comm P 256, ← Nat.mul_assoc, Nat.mul_comm q 256]
    omega
  have e2 : (C + (255 - x)) * P + x * P = C * P + 255 * P := by
    rw [← Nat.add_mul, ← Nat.add_mul]
    congr 1
    omega
  rw [← hm, ← e1] at e2
  omega
/-- of a negative integer: the number without the hyphen -/
theorem neg_num {c r : List UInt8} (hl : r.length = c.length) (h : ∃ C : Nat, bnum r + C * 256 ^ r.length + bnum c = 256 ^ r.length) (hn : hiB c = true) : (bnum r : Int) = -(sval c) := by
  obtain ⟨C, h⟩ := h
  have hc : 0 < bnum c := by
    cases c with
    | nil => cases hn
    | cons x c =>
      rw [bnum_cons]
      have h8 : 128 ≤ x.toNat := by simpa [hiB] using hn
      have hp := pow_pos256 c.length
      have := Nat.mul_le_mul_right (256 ^ c.length) h8
      omega
  unfold sval
  rw [hn, if_pos rfl, ← hl]
  rcases Nat.eq_zero_or_pos C with h0 | h0
  · rw [h0] at h
    omega
  · have := Nat.mul_le_mul_right (256 ^ r.length) h0
    omega
/-- of a positive one: its opposite -/
theorem neg_pos {c r : List UInt8} (hl : r.length = c.length) (h : ∃ C : Nat, bnum r + C * 256 ^ r.length + bnum c = 256 ^ r.length) (hv : hiB c = false) (h0 : 0 < bnum c) : sval r = -(sval c) := by
  obtain ⟨C, h⟩ := h
  have hC : C = 0 := by
    rcases Nat.eq_zero_or_pos C with h1 | h1
    · exact h1
    · have := Nat.mul_le_mul_right (256 ^ r.length) h1
      omega
  subst hC
  have hs : sval c = bnum c := by unfold sval; rw [hv]; simp
  rw [hs]
  match r, c, hl with
  | [], [], _ => rw [bnum_nil] at h0; omega
  | x :: r, y :: c, hl =>
    simp only [List.length_cons, Nat.add_right_cancel_iff] at hl
    have hy : ¬ 128 ≤ y.toNat := by simpa [hiB] using hv
    have hb := bnum_lt c
    have hb2 := bnum_lt r
    have hp := pow_pos256 r.length
    rw [bnum_cons, bnum_cons, List.length_cons, pow_succ256, hl] at h
    rw [bnum_cons] at h0 ⊢
    rw [sval_cons, hl]
    rw [hl] at hb2 hp
    have hx := x.toNat_lt
    generalize 256 ^ c.length = P at *
    generalize bnum c = D at *
    generalize bnum r = R at *
    have h8 : 128 ≤ x.toNat := by
      rcases Nat.lt_or_ge x.toNat 128 with h9 | h9
      · have h1 := Nat.mul_le_mul_right P (show x.toNat ≤ 127 by omega)
        have h2 := Nat.mul_le_mul_right P (show y.toNat ≤ 127 by omega)
        omega
      · exact h9
    rw [if_pos h8]
    have e1 : (x.toNat : Int) * P = ((x.toNat * P : Nat) : Int) := (Int.natCast_mul _ _).symm
    rw [Int.sub_mul, e1]
    have e2 : (256 : Int) * P = ((P * 256 : Nat) : Int) := by rw [Int.natCast_mul]; omega
    rw [e2]
    omega
  | [], _ :: _, hl => simp at hl
  | _ :: _, [], hl => simp at hl

/-! ### decimal notation -/
theorem dval_dgv (l : List UInt8) : dval l = dgv 10 (l.map fun x => UInt8.ofNat (x.toNat - 48)) := by
  unfold dval dgv
  rw [List.foldl_map]
  congr 1
  funext n x
  have hx := x.toNat_lt
  rw [UInt8.toNat_ofNat']
  congr 1
  omega
/-- digits without zeros at the beginning are the notation -/
theorem decN_digits (k : Nat) : ∀ d : List UInt8, d.length = k → d ≠ [] → (∀ x ∈ d, x.toNat < 10) → (d.head? ≠ some 0 ∨ d.length = 1) → decN (dgv 10 d) = d.map (fun x => UInt8.ofNat (48 + x.toNat)) := by
  induction k with
  | zero => intro d hl hne; exact absurd (List.eq_nil_of_length_eq_zero hl) hne
  | succ k ih =>
    intro d hl hne hd hh
    rcases List.eq_nil_or_concat d with rfl | ⟨d', x, rfl⟩
    · exact absurd rfl hne
    · rw [List.concat_eq_append] at *
      rw [dgv_snoc, List.map_append]
      have hx : x.toNat < 10 := hd x (by simp)
      rcases Nat.eq_zero_or_pos k with h0 | h0
      · have : d' = [] := List.eq_nil_of_length_eq_zero (by simp at hl; omega)
        subst this
        rw [dgv_nil, decN_small (by omega)]
        simp
      · have hl' : d'.length = k := by simpa using hl
        have hne' : d' ≠ [] := by rintro rfl; simp at hl'; omega
        have hh' : d'.head? ≠ some 0 := by
          rcases hh with hh | hh
          · rw [List.head?_append] at hh
            match d', hne' with
            | y :: r, _ => simpa using hh
          · simp at hh
            exact absurd hh hne'
        have h1 : 1 ≤ dgv 10 d' := by
          match d', hne', hh' with
          | y :: r, _, hh' =>
            rw [dgv_cons]
            have hy : y.toNat ≠ 0 := fun e => hh' (by rw [show y = 0 from UInt8.toNat_inj.1 e]; rfl)
            have := Nat.mul_le_mul (show 1 ≤ y.toNat by omega) (show 1 ≤ 10 ^ r.length from Nat.pow_pos (by omega))
            omega
        rw [decN_big (by omega), show (dgv 10 d' * 10 + x.toNat) / 10 = dgv 10 d' from by omega, show (dgv 10 d' * 10 + x.toNat) % 10 = x.toNat from by omega,
          ih d' hl' hne' (fun y hy => hd y (by simp [hy])) (.inl hh')]
        rfl
theorem decN_head {n : Nat} (h : 0 < n) : (decN n).head? ≠ some 48 := by
  have key : ∀ (k n : Nat), n ≤ k → 0 < n → (decN n).head? ≠ some 48 := by
    intro k
    induction k using Nat.strongRecOn with
    | _ k ih =>
      intro n hk h
      by_cases h10 : n < 10
      · rw [decN_small h10]
        simp only [List.head?_cons, ne_eq, Option.some.injEq]
        intro e
        have := congrArg UInt8.toNat e
        rw [digit_byte h10] at this
        have e2 : (48 : UInt8).toNat = 48 := rfl
        omega
      · rw [decN_big h10, List.head?_append]
        have := ih (n / 10) (by omega) (n / 10) (Nat.le_refl _) (by omega)
        match hq : decN (n / 10), (decN_ok (n / 10) (n / 10) (Nat.le_refl _)).2.2.1 with
        | y :: r, _ =>
          rw [hq] at this
          simpa using this
  exact key n n (Nat.le_refl _) h
/-- a text of digits without zeros at the beginning, but 0 itself -/
def numOk (t : List UInt8) : Bool := t.all isD && (decide (t = [48]) || (!t.isEmpty && decide (t.head? ≠ some 48)))
theorem isD_sub {x : UInt8} (h : isD x = true) : x.toNat - 48 < 10 ∧ UInt8.ofNat (48 + (UInt8.ofNat (x.toNat - 48)).toNat) = x := by
  unfold isD at h
  simp only [Bool.and_eq_true, decide_eq_true_eq] at h
  have hx := x.toNat_lt
  refine ⟨by omega, ?_⟩
  apply UInt8.toNat_inj.1
  rw [UInt8.toNat_ofNat', UInt8.toNat_ofNat']
  omega
theorem decN_text {t : List UInt8} (h : numOk t = true) : decN (dval t) = t := by
  unfold numOk at h
  simp only [Bool.and_eq_true, Bool.or_eq_true, decide_eq_true_eq, Bool.not_eq_true', List.all_eq_true] at h
  obtain ⟨hd, h⟩ := h
  have hne : t ≠ [] := by
    rcases h with h | h
    · rw [h]; simp
    · rintro rfl; simp at h
  rw [dval_dgv]
  rw [decN_digits _ _ rfl (by simpa using hne)]
  · rw [List.map_map]
    conv => rhs; rw [← List.map_id t]
    apply List.map_congr_left
    intro x hx
    exact (isD_sub (hd x hx)).2
  · intro y hy
    obtain ⟨x, hx, rfl⟩ := List.mem_map.1 hy
    have := (isD_sub (hd x hx)).1
    rw [UInt8.toNat_ofNat']
    omega
  · rcases h with h | h
    · right; rw [h]; rfl
    · left
      match t, hne with
      | x :: r, _ =>
        simp only [List.map_cons, List.head?_cons, ne_eq, Option.some.injEq]
        intro e
        have hx := hd x (by simp)
        unfold isD at hx
        simp only [Bool.and_eq_true, decide_eq_true_eq] at hx
        have := congrArg UInt8.toNat e
        rw [UInt8.toNat_ofNat'] at this
        have e0 : (0 : UInt8).toNat = 0 := rfl
        have h48 : x = 48 := UInt8.toNat_inj.1 (show x.toNat = 48 by omega)
        rw [h48] at h
        simp at h
theorem numOk_of {t : List UInt8} (hd : t.all isD = true) (h : decN (dval t) = t) : numOk t = true := by
  unfold numOk
  rw [hd, Bool.true_and]
  rcases Nat.eq_zero_or_pos (dval t) with h0 | h0
  · rw [h0] at h
    have : decN 0 = [48] := by rw [decN_small (by omega)]; rfl
    rw [this] at h
    rw [← h]
    rfl
  · have h1 := decN_head h0
    have h2 := (decN_ok (dval t) (dval t) (Nat.le_refl _)).2.2.1
    rw [h] at h1 h2
    simp [h1, h2]
theorem decN_zero : decN 0 = [48] := by
  rw [decN_small (by omega)]
  rfl
theorem numOk_all {t : List UInt8} (h : numOk t = true) : t.all isD = true := by
  unfold numOk at h
  simp only [Bool.and_eq_true] at h
  exact h.1
theorem decI_neg {n : Nat} (h : 0 < n) : decI (-(n : Int)) = 45 :: decN n := by
  unfold decI
  rw [if_pos (by omega), show (-(n : Int)).natAbs = n from by omega]
theorem decI_nat (n : Nat) : decI (n : Int) = decN n := by
  unfold decI
  rw [if_neg (by omega), show ((n : Int)).natAbs = n from by omega]
theorem ok_iff (s : List UInt8) : ((restS s).all isD = true ∧ decI (numS s) = s) ↔ (numOk (restS s) = true ∧ ¬ (negS s = true ∧ restS s = [48])) := by
  have hz : dval [48] = 0 := by decide
  by_cases hn : negS s = true
  · obtain ⟨t, rfl⟩ : ∃ t, s = 45 :: t := by
      match s, hn with
      | x :: t, hn =>
        have h45 : x = 45 := by simpa [negS] using hn
        exact ⟨t, by rw [h45]⟩
    have hN : numS (45 :: t) = -(dval t : Int) := by
      unfold numS
      rw [if_pos hn]
      rfl
    have hr : restS (45 :: t) = t := rfl
    rw [hN, hr]
    constructor
    · rintro ⟨hd, h2⟩
      rcases Nat.eq_zero_or_pos (dval t) with h0 | h0
      · rw [h0, show (-((0 : Nat) : Int)) = ((0 : Nat) : Int) from rfl, decI_nat, decN_zero] at h2
        cases h2
      · rw [decI_neg h0] at h2
        have h3 : decN (dval t) = t := by simpa using h2
        refine ⟨numOk_of hd h3, fun h => ?_⟩
        rw [h.2, hz] at h0
        omega
    · rintro ⟨hk, h2⟩
      have hT := decN_text hk
      refine ⟨numOk_all hk, ?_⟩
      have h0 : 0 < dval t := by
        rcases Nat.eq_zero_or_pos (dval t) with h0 | h0
        · rw [h0, decN_zero] at hT
          exact absurd ⟨hn, hT.symm⟩ h2
        · exact h0
      rw [decI_neg h0, hT]
  · have hr : restS s = s := by unfold restS; rw [if_neg hn]
    have hN : numS s = (dval s : Int) := by
      unfold numS
      rw [if_neg hn, hr]
    rw [hN, hr, decI_nat]
    constructor
    · rintro ⟨hd, h2⟩
      exact ⟨numOk_of hd h2, fun h => hn h.1⟩
    · rintro ⟨hk, _⟩
      exact ⟨numOk_all hk, decN_text hk⟩
/-- which texts are read -/
theorem parS_eq (s : List UInt8) : parS s = if numOk (restS s) = true ∧ ¬ (negS s = true ∧ restS s = [48]) then some (numS s) else none := by
  unfold parS
  simp only [ok_iff s]
end Go.Proofs.YtepicefbpadbhaaDoor
