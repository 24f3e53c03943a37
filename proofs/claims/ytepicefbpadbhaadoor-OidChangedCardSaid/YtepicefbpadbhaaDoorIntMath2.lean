/-
  Plain mathematics of the integer layer: octets widened and compared; values within 64 bits; decimal notation.
-/
import Derived.Test.YtepicefbpadbhaaDoorIntMath
namespace Go.Proofs.YtepicefbpadbhaaDoor

def signB (l : List UInt8) : UInt8 := if hiB l = true then 255 else 0
/-- so many octets ahead -/
def padI (k : Nat) (l : List UInt8) : List UInt8 := List.replicate k (signB l) ++ l
def flipI : List UInt8 → List UInt8
  | [] => []
  | x :: l => (x ^^^ 128) :: l
theorem signB_hi {l : List UInt8} (h : l ≠ []) : hiB (signB l :: l) = hiB l ∧ signB (signB l :: l) = signB l ∧ sval (signB l :: l) = sval l := by
  match l, h with
  | x :: l, _ =>
    rcases hb : hiB (x :: l) with _ | _
    · have e : signB (x :: l) = 0 := by unfold signB; rw [hb]; rfl
      rw [e]
      refine ⟨rfl, rfl, ?_⟩
      rw [sval_zero_cons]
      unfold sval
      rw [hb]
      simp
    · have e : signB (x :: l) = 255 := by unfold signB; rw [hb]; rfl
      rw [e]
      refine ⟨rfl, rfl, ?_⟩
      have h8 : 128 ≤ x.toNat := by simpa [hiB] using hb
      refine sval_drop ?_
      unfold vI
      have e255 : (255 : UInt8).toNat = 255 := rfl
      simp [e255, h8]
theorem padI_succ (k : Nat) (l : List UInt8) (h : l ≠ []) : padI (k + 1) l = signB (padI k l) :: padI k l ∧ padI k l ≠ [] ∧ signB (padI k l) = signB l ∧ sval (padI k l) = sval l := by
  induction k with
  | zero =>
    have e : padI 0 l = l := rfl
    rw [e]
    exact ⟨rfl, h, rfl, rfl⟩
  | succ k ih =>
    obtain ⟨h1, h2, h3, h4⟩ := ih
    have s := signB_hi h2
    have hs : signB (padI (k + 1) l) = signB l := by rw [h1, s.2.1, h3]
    refine ⟨?_, by rw [h1]; simp, hs, by rw [h1, s.2.2, h4]⟩
    rw [hs]
    rfl
theorem padI_val (k : Nat) {l : List UInt8} (h : l ≠ []) : sval (padI k l) = sval l := (padI_succ k l h).2.2.2
theorem padI_ne (k : Nat) {l : List UInt8} (h : l ≠ []) : padI k l ≠ [] := (padI_succ k l h).2.1
theorem padI_len (k : Nat) (l : List UInt8) : (padI k l).length = k + l.length := by simp [padI]
theorem xor128 (x : UInt8) : (x ^^^ 128).toNat = if 128 ≤ x.toNat then x.toNat - 128 else x.toNat + 128 := by
  have h : ∀ n : Fin 256, (UInt8.ofNat n.val ^^^ 128).toNat = if 128 ≤ n.val then n.val - 128 else n.val + 128 := by decide +kernel
  have := h ⟨x.toNat, x.toNat_lt⟩
  simpa using this
theorem flip_num {x : UInt8} {l : List UInt8} : (bnum (flipI (x :: l)) : Int) = sval (x :: l) + (128 * 256 ^ l.length : Nat) := by
  unfold flipI
  rw [bnum_cons, sval_cons, xor128]
  generalize 256 ^ l.length = P
  have hx := x.toNat_lt
  by_cases h : 128 ≤ x.toNat
  · rw [if_pos h, if_pos h]
    obtain ⟨e, he⟩ : ∃ e : Nat, x.toNat = 128 + e := ⟨x.toNat - 128, by omega⟩
    rw [he, Nat.add_sub_cancel_left]
    simp only [Int.natCast_add, Int.natCast_mul, Int.sub_mul, Int.add_mul]
    omega
  · rw [if_neg h, if_neg h]
    simp only [Int.natCast_add, Int.natCast_mul, Nat.add_mul]
    omega
/-- widened octets are compared as the integers -/
theorem cmp_wide {a b : List UInt8} (ha : a ≠ []) (hb : b ≠ []) {n : Nat} (h1 : a.length ≤ n) (h2 : b.length ≤ n) :
    lex (flipI (padI (n - a.length) a)) (flipI (padI (n - b.length) b)) = sgn (sval a) (sval b) := by
  have la := padI_len (n - a.length) a
  have lb := padI_len (n - b.length) b
  have va := padI_val (n - a.length) ha
  have vb := padI_val (n - b.length) hb
  have na := padI_ne (n - a.length) ha
  have nb := padI_ne (n - b.length) hb
  generalize padI (n - a.length) a = p at *
  generalize padI (n - b.length) b = q at *
  match p, q, na, nb with
  | x :: p, y :: q, _, _ =>
    simp only [List.length_cons] at la lb
    have hl : p.length = q.length := by omega
    rw [lex_num (by simp [flipI, hl]), flip_num, flip_num, va, vb, hl]
    unfold sgn
    split <;> split <;> (try split) <;> (try split) <;> omega
def cmpI (a b : List UInt8) : Int := if vI a = true ∧ vI b = true then sgn (sval a) (sval b) else 0
theorem vI_ne {l : List UInt8} (h : vI l = true) : l ≠ [] := by rintro rfl; cases h
theorem cmpI_anti (a b : List UInt8) : cmpI b a = - cmpI a b := by
  unfold cmpI
  by_cases h : vI a = true ∧ vI b = true
  · rw [if_pos h, if_pos ⟨h.2, h.1⟩]
    exact sgn_anti _ _
  · rw [if_neg h, if_neg (fun h' => h ⟨h'.2, h'.1⟩)]
    rfl
theorem cmpI_zero {a b : List UInt8} (ha : vI a = true) (hb : vI b = true) : cmpI a b = 0 ↔ a = b := by
  unfold cmpI
  rw [if_pos ⟨ha, hb⟩]
  constructor
  · intro h
    exact sval_inj ha hb (sgn_zero h)
  · rintro rfl
    exact sgn_self _
theorem cmpI_trans {a b c : List UInt8} (ha : vI a = true) (hb : vI b = true) (hc : vI c = true) (h1 : cmpI a b ≤ 0) (h2 : cmpI b c ≤ 0) : cmpI a c ≤ 0 := by
  unfold cmpI at *
  rw [if_pos ⟨ha, hb⟩] at h1
  rw [if_pos ⟨hb, hc⟩] at h2
  rw [if_pos ⟨ha, hc⟩]
  unfold sgn at *
  repeat split at h1
  all_goals repeat split at h2
  all_goals repeat split
  all_goals omega
theorem cmpI_lt {a b : List UInt8} (ha : vI a = true) (hb : vI b = true) : cmpI a b < 0 ↔ sval a < sval b := by
  unfold cmpI
  rw [if_pos ⟨ha, hb⟩]
  unfold sgn
  split
  · constructor
    · intro _; assumption
    · intro _; omega
  · split <;> omega

/-- up to eight octets: 64 bits -/
theorem sval_64 {l : List UInt8} (h : l.length ≤ 8) : -9223372036854775808 ≤ sval l ∧ sval l ≤ 9223372036854775807 := by
  match l, h with
  | [], _ => rw [sval_nil]; omega
  | x :: l, h =>
    simp only [List.length_cons] at h
    have h1 := sval_bd (x := x) (l := l)
    have h2 := pow_mono256 (show l.length ≤ 7 by omega)
    have h3 : (256 : Nat) ^ 7 = 72057594037927936 := by decide
    rw [h3] at h2
    generalize 256 ^ l.length = P at *
    omega
theorem senc_len {n : Int} (h1 : -9223372036854775808 ≤ n) (h2 : n ≤ 9223372036854775807) : (senc n).length ≤ 8 := by
  have hv := senc_valid n
  have hn := senc_val n
  rcases hq : senc n with _ | ⟨x, _ | ⟨y, l⟩⟩
  · simp
  · simp
  · rw [hq] at hv hn
    have hm := sval_min hv
    rw [hn] at hm
    rcases Nat.lt_or_ge l.length 7 with h | h
    · simp only [List.length_cons]; omega
    · have h3 := pow_mono256 h
      have h4 : (256 : Nat) ^ 7 = 72057594037927936 := by decide
      rw [h4] at h3
      generalize 256 ^ l.length = P at *
      omega
/-- what is gathered octet by octet, from -1 or 0 on -/
theorem sval_run (l : List UInt8) : ∀ n : Int, l.foldl (fun n x => n * 256 + (x.toNat : Int)) n = n * (256 ^ l.length : Nat) + bnum l := by
  induction l with
  | nil => intro n; simp [bnum_nil]
  | cons x l ih =>
    intro n
    rw [List.foldl_cons, ih, bnum_cons, List.length_cons, pow_succ256]
    generalize 256 ^ l.length = P
    simp only [Int.natCast_add, Int.natCast_mul, Int.add_mul, Int.mul_assoc]
    have e : (256 : Int) * (P : Int) = (P : Int) * ((256 : Nat) : Int) := by omega
    rw [e]
    omega
theorem sval_fold (l : List UInt8) : l.foldl (fun n x => n * 256 + (x.toNat : Int)) (if hiB l = true then -1 else 0) = sval l := by
  rw [sval_run]
  unfold sval
  split <;> omega

/-! ### decimal notation -/
def decN (n : Nat) : List UInt8 := if h : n < 10 then [UInt8.ofNat (48 + n)] else decN (n / 10) ++ [UInt8.ofNat (48 + n % 10)]
termination_by n
decreasing_by omega
def decI (n : Int) : List UInt8 := if n < 0 then 45 :: decN n.natAbs else decN n.natAbs
def isD (x : UInt8) : Bool := decide (48 ≤ x.toNat) && decide (x.toNat ≤ 57)
def dval (l : List UInt8) : Nat := l.foldl (fun n x => n * 10 + (x.toNat - 48)) 0
theorem dval_snoc (l : List UInt8) (x : UInt8) : dval (l ++ [x]) = dval l * 10 + (x.toNat - 48) := by
  unfold dval
  rw [List.foldl_append]
  rfl
theorem decN_small {n : Nat} (h : n < 10) : decN n = [UInt8.ofNat (48 + n)] := by rw [decN, dif_pos h]
theorem decN_big {n : Nat} (h : ¬ n < 10) : decN n = decN (n / 10) ++ [UInt8.ofNat (48 + n % 10)] := by rw [decN, dif_neg h]
theorem digit_byte {d : Nat} (h : d < 10) : (UInt8.ofNat (48 + d)).toNat = 48 + d := by
  rw [UInt8.toNat_ofNat']
  omega
theorem decN_ok (k : Nat) : ∀ n, n ≤ k → (decN n).all isD = true ∧ dval (decN n) = n ∧ decN n ≠ [] ∧ (decN n).head? ≠ some 45 := by
  induction k using Nat.strongRecOn with
  | _ k ih =>
    intro n hn
    by_cases h : n < 10
    · rw [decN_small h]
      have hd := digit_byte h
      refine ⟨?_, ?_, by simp, ?_⟩
      · simp only [List.all_cons, List.all_nil, Bool.and_true]
        unfold isD
        rw [hd]
        simp
        omega
      · unfold dval
        simp only [List.foldl_cons, List.foldl_nil]
        omega
      · simp only [List.head?_cons, ne_eq, Option.some.injEq]
        intro e
        rw [e] at hd
        have : (45 : UInt8).toNat = 45 := rfl
        omega
    · rw [decN_big h]
      have hd := digit_byte (show n % 10 < 10 by omega)
      obtain ⟨h1, h2, h3, h4⟩ := ih (n / 10) (by omega) (n / 10) (Nat.le_refl _)
      refine ⟨?_, ?_, by simp, ?_⟩
      · rw [List.all_append, h1]
        simp only [List.all_cons, List.all_nil, Bool.and_true, Bool.true_and]
        unfold isD
        rw [hd]
        simp
        omega
      · rw [dval_snoc, h2, hd]
        omega
      · rw [List.head?_append]
        match hq : decN (n / 10), h3 with
        | x :: r, _ =>
          rw [hq] at h4
          simpa using h4
theorem decN_val (n : Nat) : dval (decN n) = n := (decN_ok n n (Nat.le_refl _)).2.1
/-- what the octets of a text stand for, whether it is a notation or not -/
def negS : List UInt8 → Bool
  | x :: _ => x == 45
  | [] => false
def restS (s : List UInt8) : List UInt8 := if negS s = true then s.drop 1 else s
def numS (s : List UInt8) : Int := if negS s = true then -(dval (restS s) : Int) else dval (restS s)
/-- the integer whose decimal notation a text is -/
def parS (s : List UInt8) : Option Int := if (restS s).all isD = true ∧ decI (numS s) = s then some (numS s) else none
theorem parS_some {s : List UInt8} {n : Int} (h : parS s = some n) : decI n = s := by
  unfold parS at h
  split at h
  · rename_i h2
    injection h with h
    rw [← h]
    exact h2.2
  · cases h
theorem parS_dec (n : Int) : parS (decI n) = some n := by
  have ok := decN_ok n.natAbs n.natAbs (Nat.le_refl _)
  obtain ⟨h1, h2, h3, h4⟩ := ok
  have e : negS (decI n) = decide (n < 0) ∧ restS (decI n) = decN n.natAbs := by
    by_cases hn : n < 0
    · have e1 : decI n = 45 :: decN n.natAbs := by unfold decI; rw [if_pos hn]
      rw [e1]
      refine ⟨by simp [negS, hn], rfl⟩
    · have e1 : decI n = decN n.natAbs := by unfold decI; rw [if_neg hn]
      have e2 : negS (decN n.natAbs) = false := by
        match hq : decN n.natAbs, h3 with
        | x :: r, _ =>
          rw [hq] at h4
          simp only [List.head?_cons, ne_eq, Option.some.injEq] at h4
          simpa [negS] using h4
      rw [e1]
      refine ⟨by rw [e2]; simp [hn], ?_⟩
      unfold restS
      rw [e2]
      simp
  have e3 : numS (decI n) = n := by
    unfold numS
    rw [e.1, e.2, h2]
    by_cases hn : n < 0
    · rw [if_pos (by simpa using hn)]; omega
    · rw [if_neg (by simpa using hn)]; omega
  unfold parS
  rw [e.2, e3, if_pos ⟨h1, rfl⟩]
theorem decI_inj {n m : Int} (h : decI n = decI m) : n = m := by
  have h1 := parS_dec n
  rw [h, parS_dec] at h1
  injection h1 with h1
  exact h1.symm
/-- the digits, the last one first -/
theorem decN_step {n : Nat} (h : 0 < n / 10) : decN n = decN (n / 10) ++ [UInt8.ofNat (48 + n % 10)] := decN_big (by omega)
theorem decN_last {n : Nat} (h : n / 10 = 0) : decN n = [UInt8.ofNat (48 + n % 10)] := by
  rw [decN_small (by omega), Nat.mod_eq_of_lt (by omega)]
end Go.Proofs.YtepicefbpadbhaaDoor
