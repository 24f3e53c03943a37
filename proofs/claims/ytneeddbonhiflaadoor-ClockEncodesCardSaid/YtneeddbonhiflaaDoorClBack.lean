/-
  Plain mathematics: a valid point in time is decoded from its octets.
-/
import Derived.Test.YtneeddbonhiflaaDoorClDec
namespace Go.Proofs.YtneeddbonhiflaaDoor

theorem dgB_num (n : Int) : ((dgB n).toNat % 16 : Nat) = (n % 10).toNat := by
  unfold dgB
  rw [UInt8.toNat_ofNat']
  omega
theorem num_two (n : Int) (h : 0 ≤ n) (h1 : n ≤ 99) : ((numO [dgB (n / 10), dgB n] : Nat) : Int) = n := by
  have e1 := dgB_num (n)
  have e2 := dgB_num (n / 10)
  show (((0 * 10 + (dgB (n / 10)).toNat % 16) * 10 + (dgB n).toNat % 16 : Nat) : Int) = n
  rw [e1, e2]
  omega
theorem num_two' (n : Int) : ((numO [dgB (n / 10), dgB n] : Nat) : Int) = n % 100 := by
  have e1 := dgB_num (n)
  have e2 := dgB_num (n / 10)
  show (((0 * 10 + (dgB (n / 10)).toNat % 16) * 10 + (dgB n).toNat % 16 : Nat) : Int) = n % 100
  rw [e1, e2]
  omega
theorem num_four (n : Int) (h : 0 ≤ n) (h1 : n ≤ 9999) : ((numO [dgB (n / 10 / 10 / 10), dgB (n / 10 / 10), dgB (n / 10), dgB n] : Nat) : Int) = n := by
  have e1 := dgB_num (n)
  have e2 := dgB_num (n / 10)
  have e3 := dgB_num (n / 10 / 10)
  have e4 := dgB_num (n / 10 / 10 / 10)
  show (((((0 * 10 + (dgB (n / 10 / 10 / 10)).toNat % 16) * 10 + (dgB (n / 10 / 10)).toNat % 16) * 10 + (dgB (n / 10)).toNat % 16) * 10 + (dgB n).toNat % 16 : Nat) : Int) = n
  rw [e1, e2, e3, e4]
  omega
theorem tail_fld (t : Tm) (hok : okT t = true) (a b : List UInt8) (p : Nat) (hp : a.length = p) (y : Int) (hb : b = a ++ tailO t) : fldO y b p = ⟨y, t.m, t.d, t.h, t.i, t.s⟩ := by
  obtain ⟨_, h1, h2, h3, h4, h5⟩ := okT_bounds hok
  subst hb
  subst hp
  have e : ∀ k, (a ++ tailO t).drop (a.length + k) = (tailO t).drop k := fun k => by simp
  have e0 : (a ++ tailO t).drop a.length = tailO t := by simp
  unfold fldO
  rw [e0, e, e, e, e]
  show Tm.mk y (numO [dgB (t.m / 10), dgB t.m] : Nat) (numO [dgB (t.d / 10), dgB t.d] : Nat) (numO [dgB (t.h / 10), dgB t.h] : Nat) (numO [dgB (t.i / 10), dgB t.i] : Nat) (numO [dgB (t.s / 10), dgB t.s] : Nat) = _
  rw [num_two _ (by omega) (by omega), num_two _ (by omega) (by omega), num_two _ (by omega) (by omega), num_two _ (by omega) (by omega), num_two _ (by omega) (by omega)]
theorem decG_back (t : Tm) (hok : okT t = true) : decG (genL t) = (t, 0) := by
  have hc : candG (genL t) = t := by
    obtain ⟨h0, _⟩ := okT_bounds hok
    unfold candG
    rw [tail_fld t hok (digO t.y 4) (genL t) 4 (digO_len _ _) _ rfl]
    have e : (genL t).take 4 = [dgB (t.y / 10 / 10 / 10), dgB (t.y / 10 / 10), dgB (t.y / 10), dgB t.y] := rfl
    rw [e, num_four _ h0.1 h0.2]
  unfold decG
  rw [hc]
  unfold genE
  rw [if_pos hok]
  exact if_pos ⟨rfl, eqB_self _⟩
theorem decU_back (t : Tm) (hok : okT t = true) (hy : 1950 ≤ t.y ∧ t.y ≤ 2049) : decU (utcL t) = (t, 0) := by
  have hc : candU (utcL t) = t := by
    unfold candU
    rw [tail_fld t hok (digO t.y 2) (utcL t) 2 (digO_len _ _) _ rfl]
    have e : (utcL t).take 2 = [dgB (t.y / 10), dgB t.y] := rfl
    rw [e, num_two']
    have ey : yearU (t.y % 100) = t.y := by
      unfold yearU
      split <;> omega
    rw [ey]
  unfold decU
  rw [hc]
  unfold utcE
  rw [if_pos hok, if_neg (show ¬ (t.y < 1950 ∨ 2049 < t.y) by omega)]
  exact if_pos ⟨rfl, eqB_self _⟩
end Go.Proofs.YtneeddbonhiflaaDoor
