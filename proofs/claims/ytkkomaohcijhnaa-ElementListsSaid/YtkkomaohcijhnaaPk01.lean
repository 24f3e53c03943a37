/-
  Lemmas and contracts of functions, for the proofs of this seat's laws; nothing of a law.
-/
import Derived.Lib.BitFns
import Derived.Below
import Derived.Laws.OwnMore
import Derived.Deep.Draws
import Derived.Deep.QuietTactic
import Derived.ProofKit
import Derived.OpenShut
import Derived.Lib.Hide
import Derived.Laws.IdiomStrings
import Derived.OwnWalk
import Derived.Test.YtkkomaohcijhnaaChecked
import Derived.WalkKit
import Derived.Outline
import Derived.BigQuiet
import Derived.Deep.DeepMust
import Derived.WalkLawsBesides
import Derived.Laws.BitsAllLaws
import Derived.Laws.Shifts
import Derived.Deep.RegionLaw
import Derived.Tactics
import Derived.LoopTactic
import Derived.WalkSpells
import Derived.StillTailTactics
import Derived.Shelf.SlSortCmp.NoneTotal
import Derived.Shelf.Strings.Builder1
import Derived.Shelf.Strings.Builder2
import Derived.Shelf.Strings.OnBuilder
import Derived.Shelf.Small.Bits
import Derived.Shelf.Strconv.Itoa0
import Derived.Test.YtkkomaohcijhnaaProg
import Derived.Deep.Cut
namespace Go.Proofs.Ytkkomaohcijhnaa
def bnum (l : List UInt8) : Nat := l.foldl (fun n x => n * 256 + x.toNat) 0
theorem bnum_fold (l : List UInt8) : ∀ n : Nat, l.foldl (fun n x => n * 256 + x.toNat) n = n * 256 ^ l.length + bnum l := by
  induction l with
  | nil => intro n; simp [bnum]
  | cons x l ih =>
    intro n
    unfold bnum
    rw [List.foldl_cons, List.foldl_cons, ih, ih (0 * 256 + x.toNat), List.length_cons, Nat.pow_succ]
    rw [Nat.add_mul, Nat.add_mul, Nat.zero_mul, Nat.zero_add, Nat.mul_assoc, Nat.mul_comm 256, Nat.add_assoc]
theorem bnum_nil : bnum [] = 0 := rfl
theorem bnum_cons (x : UInt8) (l : List UInt8) : bnum (x :: l) = x.toNat * 256 ^ l.length + bnum l := by
  show (x :: l).foldl _ 0 = _
  rw [List.foldl_cons, bnum_fold]
  simp
theorem bnum_append (l r : List UInt8) : bnum (l ++ r) = bnum l * 256 ^ r.length + bnum r := by
  show (l ++ r).foldl _ 0 = _
  rw [List.foldl_append, bnum_fold]
  rfl
theorem bnum_snoc (l : List UInt8) (x : UInt8) : bnum (l ++ [x]) = bnum l * 256 + x.toNat := by
  rw [bnum_append, bnum_cons]
  simp [bnum_nil]
theorem bnum_lt (l : List UInt8) : bnum l < 256 ^ l.length := by
  induction l with
  | nil => simp [bnum_nil]
  | cons x l ih =>
    rw [bnum_cons, List.length_cons, Nat.pow_succ]
    have hx := x.toNat_lt
    have h1 : x.toNat * 256 ^ l.length + 256 ^ l.length ≤ 256 ^ l.length * 256 := by
      rw [← Nat.succ_mul, Nat.mul_comm]
      exact Nat.mul_le_mul (Nat.le_refl _) (by omega)
    omega
theorem bnum_take (l : List UInt8) {k : Nat} (h : k < l.length) : bnum (l.take (k + 1)) = bnum (l.take k) * 256 + l[k].toNat := by
  rw [List.take_succ_eq_append_getElem h, bnum_snoc]
def two64 : Nat := 18446744073709551616
def uval (l : List UInt8) : Int := if bnum l < two64 then (bnum l : Int) else 0
def uok (l : List UInt8) : Bool := decide (bnum l < two64)
theorem uval_lt {l : List UInt8} {n : Nat} (e : bnum l = n) (h : n < two64) : (n : Int) = uval l := by unfold uval; rw [e, if_pos h]
theorem uok_lt {l : List UInt8} {n : Nat} (e : bnum l = n) (h : n < two64) : true = uok l := by unfold uok; rw [e]; simp [h]
theorem uval_ge {l : List UInt8} (h : two64 ≤ bnum l) : 0 = uval l := by unfold uval; rw [if_neg (by omega)]
theorem uok_ge {l : List UInt8} (h : two64 ≤ bnum l) : false = uok l := by unfold uok; simp; omega
theorem bnum_zero (l : List UInt8) : bnum (0 :: l) = bnum l := by rw [bnum_cons]; simp
theorem bnum_big {x : UInt8} {l : List UInt8} (hx : x ≠ 0) (h : 8 ≤ l.length) : two64 ≤ bnum (x :: l) := by
  rw [bnum_cons]
  have h1 : 1 ≤ x.toNat := by
    rcases Nat.eq_zero_or_pos x.toNat with h | h
    · exact absurd (UInt8.toNat_inj.1 (by simpa using h)) hx
    · exact h
  have h2 : 256 ^ 8 ≤ 256 ^ l.length := Nat.pow_le_pow_right (by omega) h
  have h3 := Nat.mul_le_mul h1 h2
  have h4 : (256 : Nat) ^ 8 = 18446744073709551616 := by decide
  unfold two64
  omega
theorem bnum_small {l : List UInt8} (h : l.length ≤ 8) : bnum l < two64 := by
  have h1 := bnum_lt l
  have h2 : 256 ^ l.length ≤ 256 ^ 8 := Nat.pow_le_pow_right (by omega) h
  have h4 : (256 : Nat) ^ 8 = 18446744073709551616 := by decide
  unfold two64
  omega
theorem prefix_lt {l : List UInt8} {k : Nat} (h : l.length ≤ 8) (hk : k < l.length) : bnum (l.take k) < 72057594037927936 := by
  have h1 := bnum_lt (l.take k)
  have h2 : 256 ^ (l.take k).length ≤ 256 ^ 7 := Nat.pow_le_pow_right (by omega) (by simp; omega)
  have h4 : (256 : Nat) ^ 7 = 72057594037927936 := by decide
  omega
end Go.Proofs.Ytkkomaohcijhnaa
namespace Go.Proofs.Ytkkomaohcijhnaa
def dg : Nat → Nat → List UInt8
  | 0, _ => []
  | k + 1, n => dg k (n / 256) ++ [UInt8.ofNat n]
theorem dg_len (k : Nat) : ∀ n, (dg k n).length = k := by
  induction k with
  | zero => intro n; rfl
  | succ k ih => intro n; simp [dg, ih]
def ndig (n : Nat) : Nat := max 1 ((Lib.bitLen n + 7) / 8)
theorem ndig_small {n : Nat} (h : n < 256) : ndig n = 1 := by
  have := Lib.bitLen_le n 8 (by omega) (by omega)
  unfold ndig
  omega
theorem ndig_big {n : Nat} (h : 256 ≤ n) (hn : n < 18446744073709551616) : ndig n = ndig (n / 256) + 1 := by
  have h1 := Lib.bitLen_shift8 n h hn
  have h2 : 1 ≤ Lib.bitLen (n / 256) := by
    have := Lib.bitLen_half (n / 256) (by omega) (by omega)
    omega
  unfold ndig
  omega
def digits (n : Nat) : List UInt8 := dg (ndig n) n
theorem digits_small {n : Nat} (h : n < 256) : digits n = [UInt8.ofNat n] := by
  unfold digits
  rw [ndig_small h]
  rfl
theorem digits_big {n : Nat} (h : 256 ≤ n) (hn : n < 18446744073709551616) : digits n = digits (n / 256) ++ [UInt8.ofNat n] := by
  unfold digits
  rw [ndig_big h hn]
  rfl
theorem ndig_bd {n : Nat} (hn : n < 18446744073709551616) : 1 ≤ ndig n ∧ ndig n ≤ 8 := by
  have := Lib.bitLen_le n 64 (by omega) (by omega)
  unfold ndig
  omega
theorem fill_step (k : Nat) (x : UInt8) (t : List UInt8) : (List.replicate (k + 1) 0 ++ t).set k x = List.replicate k 0 ++ x :: t := by
  rw [List.replicate_succ', List.append_assoc, List.set_append_right _ _ (by simp)]
  simp
theorem digits_len (n : Nat) : (digits n).length = ndig n := dg_len _ _
theorem byte_wrap (m : Nat) : ((m : Int) % 256) = ((UInt8.ofNat m).toNat : Int) := by
  simp
end Go.Proofs.Ytkkomaohcijhnaa
namespace Go.Proofs.Ytkkomaohcijhnaa
def lenHead (k : Nat) : UInt8 := UInt8.ofNat (128 + k)
theorem lenHead_val {k : Nat} (h : k ≤ 8) : ((lenHead k).toNat : Int) = 128 + k := by
  unfold lenHead
  rw [UInt8.toNat_ofNat']
  omega
def lenOct (n : Nat) : List UInt8 := if n < 128 then digits n else lenHead (ndig n) :: digits n
theorem lenOct_short {n : Nat} (h : n < 128) : lenOct n = digits n := by unfold lenOct; rw [if_pos h]
theorem lenOct_long {n : Nat} (h : ¬ n < 128) : lenOct n = lenHead (ndig n) :: digits n := by unfold lenOct; rw [if_neg h]
theorem lenOct_len {n : Nat} (h : ¬ n < 128) : (lenOct n).length = ndig n + 1 := by rw [lenOct_long h, List.length_cons, digits_len]
theorem dg_bnum (k : Nat) : ∀ l : List UInt8, l.length = k → dg k (bnum l) = l := by
  induction k with
  | zero => intro l h; rw [List.eq_nil_of_length_eq_zero h]; rfl
  | succ k ih =>
    intro l h
    have hne : l ≠ [] := by intro e; rw [e] at h; simp at h
    obtain ⟨r, x, rfl⟩ : ∃ r x, l = r ++ [x] := ⟨l.dropLast, l.getLast hne, (List.dropLast_concat_getLast hne).symm⟩
    have hr : r.length = k := by simp at h; omega
    have hx := x.toNat_lt
    rw [bnum_snoc]
    unfold dg
    rw [show (bnum r * 256 + x.toNat) / 256 = bnum r from by omega, ih r hr]
    congr 2
    apply UInt8.toNat_inj.1
    rw [UInt8.toNat_ofNat']
    omega
theorem digits_bnum {l : List UInt8} (h : ndig (bnum l) = l.length) : digits (bnum l) = l := by
  unfold digits
  rw [h]
  exact dg_bnum _ l rfl
theorem bnum_digits (n : Nat) : n < 18446744073709551616 → bnum (digits n) = n := by
  induction n using Nat.strongRecOn with
  | _ n ih =>
  intro hn
  by_cases h : n < 256
  · rw [digits_small h, show [UInt8.ofNat n] = [] ++ [UInt8.ofNat n] from rfl, bnum_snoc, bnum_nil]
    simp
    omega
  · rw [digits_big (by omega) hn, bnum_snoc, ih (n / 256) (by omega) (by omega)]
    simp
    omega
theorem ndig_le4 {n : Nat} (h : n ≤ 2147483647) : ndig n ≤ 4 := by
  have := Lib.bitLen_le n 32 (by omega) (by omega)
  unfold ndig
  omega
theorem lenOct_bd {n : Nat} (h : n ≤ 2147483647) : 1 ≤ (lenOct n).length ∧ (lenOct n).length ≤ 5 := by
  have h1 := ndig_bd (n := n) (by omega)
  have h2 := ndig_le4 h
  by_cases hs : n < 128
  · rw [lenOct_short hs, digits_len]; omega
  · rw [lenOct_len hs]; omega
structure RL where
  n : Nat
  size : Nat
  code : Nat
  off : Nat
def rdLen (l : List UInt8) : RL :=
  match l with
  | [] => ⟨0, 0, 1, 0⟩
  | x :: r =>
    if x.toNat < 128 then ⟨x.toNat, 1, 0, 0⟩
    else if x.toNat = 128 ∨ 132 < x.toNat then ⟨0, 0, 4, 0⟩
    else if r.length < x.toNat - 128 then ⟨0, 0, 1, r.length + 1⟩
    else if bnum (r.take (x.toNat - 128)) ≤ 2147483647 ∧ (lenOct (bnum (r.take (x.toNat - 128)))).length = x.toNat - 128 + 1 then ⟨bnum (r.take (x.toNat - 128)), x.toNat - 128 + 1, 0, 0⟩
    else ⟨0, 0, 4, 0⟩
theorem rdLen_short {x : UInt8} {r : List UInt8} (h : x.toNat < 128) : rdLen (x :: r) = ⟨x.toNat, 1, 0, 0⟩ := by
  unfold rdLen
  simp only []
  rw [if_pos h]
theorem rdLen_bad {x : UInt8} {r : List UInt8} (h : x.toNat = 128 ∨ 132 < x.toNat) : rdLen (x :: r) = ⟨0, 0, 4, 0⟩ := by
  unfold rdLen
  simp only []
  rw [if_neg (by omega), if_pos h]
theorem rdLen_long {x : UInt8} {r : List UInt8} {d : Nat} (hd : x.toNat = 128 + d) (h1 : 1 ≤ d) (h4 : d ≤ 4) :
    rdLen (x :: r) = if r.length < d then ⟨0, 0, 1, r.length + 1⟩ else if bnum (r.take d) ≤ 2147483647 ∧ (lenOct (bnum (r.take d))).length = d + 1 then ⟨bnum (r.take d), d + 1, 0, 0⟩ else ⟨0, 0, 4, 0⟩ := by
  unfold rdLen
  simp only []
  rw [if_neg (by omega), if_neg (by omega), show x.toNat - 128 = d from by omega]
theorem bnum_take_small {r : List UInt8} {j : Nat} (h : j ≤ 3) : bnum (r.take j) < 16777216 := by
  have h1 := bnum_lt (r.take j)
  have h2 : 256 ^ (r.take j).length ≤ 256 ^ 3 := Nat.pow_le_pow_right (by omega) (by simp; omega)
  have h4 : (256 : Nat) ^ 3 = 16777216 := by decide
  omega
theorem rdLen_bd (l : List UInt8) : (rdLen l).n ≤ 2147483647 ∧ (rdLen l).size ≤ 5 ∧ (rdLen l).code ≤ 4 ∧ (rdLen l).off ≤ 4 ∧ (rdLen l).size ≤ l.length ∧ (rdLen l).off ≤ l.length := by
  rcases l with _ | ⟨x, r⟩
  · exact ⟨by decide, by decide, by decide, by decide, by decide, by decide⟩
  · by_cases hs : x.toNat < 128
    · rw [rdLen_short hs]
      simp
      omega
    · by_cases hw : x.toNat = 128 ∨ 132 < x.toNat
      · rw [rdLen_bad hw]
        simp
      · rw [rdLen_long (d := x.toNat - 128) (by omega) (by omega) (by omega)]
        by_cases h1 : r.length < x.toNat - 128
        · rw [if_pos h1]
          simp
          omega
        · rw [if_neg h1]
          split
          · rename_i h
            simp
            omega
          · simp
theorem lenOct_read {x : UInt8} {r : List UInt8} {k n : Nat} (hx : x.toNat = 128 + k) (hk : k ≤ r.length) (hk1 : 1 ≤ k) (hn : bnum (r.take k) = n) (h : (lenOct n).length = k + 1) (hb : n ≤ 2147483647) : lenOct n = x :: r.take k := by
  have hs : ¬ n < 128 := by
    intro hs
    rw [lenOct_short hs, digits_small (by omega)] at h
    simp at h
    omega
  have hd : ndig n = k := by rw [lenOct_len hs] at h; omega
  rw [lenOct_long hs, hd]
  have e1 : lenHead k = x := by unfold lenHead; rw [← hx]; simp
  rw [e1]
  congr 1
  have := digits_bnum (l := r.take k) (by rw [hn, hd]; simp; omega)
  rw [hn] at this
  exact this
theorem rdLen_ok {l : List UInt8} (h : (rdLen l).code = 0) : lenOct (rdLen l).n = l.take (rdLen l).size ∧ (rdLen l).size ≤ l.length ∧ 1 ≤ (rdLen l).size ∧ (rdLen l).off = 0 := by
  rcases l with _ | ⟨x, r⟩
  · exact absurd h (by decide)
  · by_cases hs : x.toNat < 128
    · rw [rdLen_short hs]
      refine ⟨?_, by simp, by simp, rfl⟩
      show lenOct x.toNat = _
      rw [lenOct_short hs, digits_small (by omega)]
      simp
    · by_cases hw : x.toNat = 128 ∨ 132 < x.toNat
      · rw [rdLen_bad hw] at h
        exact absurd h (by decide)
      · obtain ⟨d, hd⟩ : ∃ d, x.toNat = 128 + d := ⟨x.toNat - 128, by omega⟩
        have hd1 : 1 ≤ d := by omega
        rw [rdLen_long hd hd1 (by omega)] at h ⊢
        by_cases h1 : r.length < d
        · rw [if_pos h1] at h
          simp at h
        · rw [if_neg h1] at h ⊢
          by_cases h2 : bnum (r.take d) ≤ 2147483647 ∧ (lenOct (bnum (r.take d))).length = d + 1
          · rw [if_pos h2]
            have e := lenOct_read hd (by omega) hd1 rfl h2.2 h2.1
            refine ⟨?_, by simp; omega, by simp, rfl⟩
            rw [List.take_succ_cons]
            exact e
          · rw [if_neg h2] at h
            simp at h
end Go.Proofs.Ytkkomaohcijhnaa
namespace Go.Proofs.Ytkkomaohcijhnaa
open Go.RowKit
def Bs (w : World) (a : Option Addr) (n c : Nat) (l : List UInt8) : Prop :=
  l.length = n ∧ n ≤ c ∧ c ≤ maxLen ∧
    (0 < n → ∃ b off, a = some ⟨b, off, none⟩ ∧ b < w.heap.size ∧ ∀ i (h : i < l.length), w.cell? ⟨b, off + i, none⟩ = some (.int .u8 l[i].toNat))
theorem Bs.len {w : World} {a : Option Addr} {n c : Nat} {l : List UInt8} (h : Bs w a n c l) : l.length = n := h.1
theorem Bs.keep {w w' : World} {a : Option Addr} {n c : Nat} {l : List UInt8} (h : Bs w a n c l) (hs : w.heap.size ≤ w'.heap.size)
    (hk : ∀ p : Addr, p.block < w.heap.size → w'.cell? p = w.cell? p) : Bs w' a n c l :=
  ⟨h.1, h.2.1, h.2.2.1, fun hn => by
    obtain ⟨b, off, e, hb, hc⟩ := h.2.2.2 hn
    exact ⟨b, off, e, by omega, fun i hi => (hk _ hb).trans (hc i hi)⟩⟩
theorem Bs.below {w w' : World} {a : Option Addr} {n c : Nat} {l : List UInt8} (h : Bs w a n c l) (hb : Below w.heap.size w w') : Bs w' a n c l :=
  h.keep hb.size fun _ hp => hb.cell hp
theorem Bs.drewN {w : World} {a : Option Addr} {n c : Nat} {l : List UInt8} (h : Bs w a n c l) (k : Nat) : Bs (w.drewN k) a n c l := h
theorem Bs.drew {w : World} {a : Option Addr} {n c : Nat} {l : List UInt8} (h : Bs w a n c l) : Bs w.drew a n c l := h
theorem Bs.alloc {w : World} {a : Option Addr} {n c : Nat} {l : List UInt8} (h : Bs w a n c l) (o : Obj) : Bs (w.alloc o) a n c l :=
  h.keep (by simp) fun p hp => World.cell?_alloc_lt w o p hp
theorem Bs.at_ {w : World} {a : Option Addr} {n c : Nat} {l : List UInt8} {i : Nat} (h : Bs w a n c l) (hi : i < n) :
    ∃ b off, ∃ hl : i < l.length, a = some ⟨b, off, none⟩ ∧ b < w.heap.size ∧ w.cell? ⟨b, off + i, none⟩ = some (.int .u8 l[i].toNat) := by
  obtain ⟨b, off, e, hb, hc⟩ := h.2.2.2 (by omega)
  have hl : i < l.length := by rw [h.1]; exact hi
  exact ⟨b, off, hl, e, hb, hc i hl⟩
theorem Bs.nil_ (w : World) : Bs w none 0 0 [] := ⟨rfl, Nat.le_refl _, by simp [maxLen], fun h => absurd h (by omega)⟩
theorem ret_int {k : IntKind} {a b : Int} (h : a = b) : Ending.returned (.int k a) = .returned (.int k b) := by rw [h]
theorem Bs.conv {P : Program} {w : World} {a : Option Addr} {n c : Nat} {l : List UInt8} (h : Bs w a n c l) {src dst e : TypeId} (hs : P.underlying src = some (.slice e)) (he : P.underlying e = some (.int .u8)) (hd : P.underlying dst = some .string) :
    (convert src dst (.slice a n c)).run P w = .ok (.string ⟨l.toArray⟩) w := by
  obtain ⟨hl, _, _, hx⟩ := h
  subst hl
  cases a with
  | none =>
    rcases Nat.eq_zero_or_pos l.length with h0 | h0
    · have : l = [] := List.eq_nil_of_length_eq_zero h0
      subst this
      show (convert src dst (.slice none 0 c)).run P w = _
      rw [run_convert_bytes_string w src dst e none 0 c hs he hd]
      simp [Conv.bytesToString]
      rfl
    · obtain ⟨b, off, e, _⟩ := hx h0
      cases e
  | some A =>
    refine run_convert_bytes_back w src dst e A c l hs he hd fun j hj => ?_
    obtain ⟨b, off, e, _, hc⟩ := hx (by omega)
    injection e with e
    subst e
    have hp : (⟨b, off, none⟩ : Addr).add j = ⟨b, off + j, none⟩ := by unfold Addr.add; split <;> simp_all
    rw [hp]
    exact hc j hj
def eqB (xs ys : List UInt8) : Bool := decide (xs = ys)
theorem eqB_self (xs : List UInt8) : eqB xs xs = true := by simp [eqB]
theorem eqB_beq (xs ys : List UInt8) : (xs == ys) = eqB xs ys := by
  unfold eqB
  rw [Bool.eq_iff_iff]
  simp
theorem byte_bd (x : UInt8) : (0 : Int) ≤ x.toNat ∧ (x.toNat : Int) ≤ 255 := by
  have := x.toNat_lt; omega
theorem bal {a w : World} (h : Below a.heap.size a w) (o : Obj) : Below a.heap.size a (w.alloc o) := h.alloc h.size o
theorem bthen {a w w' : World} (h : Below a.heap.size a w) (k : Below w.heap.size w w') : Below a.heap.size a w' := h.trans (k.mono h.size)
theorem below_drewN {B : Nat} {a w : World} (h : Below B a w) (n : Nat) : Below B a (w.drewN n) := ⟨h.os, h.tape, h.output, h.size, h.block⟩
theorem bcell {W w1 : World} (hb : Below W.heap.size W w1) : (∀ b o, b < W.heap.size → w1.cell? ⟨b, o, none⟩ = W.cell? ⟨b, o, none⟩) ∧ (∀ b o, b < W.heap.size → w1.frozen? ⟨b, o, none⟩ = W.frozen? ⟨b, o, none⟩) :=
  ⟨fun b o h => hb.cell (p := ⟨b, o, none⟩) h, fun b o h => hb.frozen (p := ⟨b, o, none⟩) h⟩
theorem quiet_left {P : Program} {f : FuncId} {args : Array Value} {w : World} {n : Nat} {v : Value}
    (h : Calls P f args (w.drewN n) fun e w' => e = .returned v ∧ w.drewN n = w') : Calls P f args (w.drewN n) fun e w'' => e = .returned v ∧ ∃ m, w'' = w.drewN m :=
  h.mono fun _ _ ⟨he, hm⟩ => ⟨he, n, hm.symm⟩
theorem quiet_add_left {P : Program} {f : FuncId} {args : Array Value} {w : World} {a n : Nat} {v : Value}
    (h : Calls P f args (w.drewN (a + n)) fun e w' => e = .returned v ∧ w.drewN (a + n) = w') :
    Calls P f args (w.drewN (a + n)) fun e w'' => e = .returned v ∧ ∃ m, w'' = w.drewN (a + m) :=
  h.mono fun _ _ ⟨he, hm⟩ => ⟨he, n, hm.symm⟩
def cellsOf (l : List UInt8) : List Value := l.map fun x => .int .u8 x.toNat
theorem cellsOf_len (l : List UInt8) : (cellsOf l).length = l.length := by simp [cellsOf]
theorem cellsOf_at {l : List UInt8} {j : Nat} (h : j < l.length) : (cellsOf l)[j]? = some (.int .u8 l[j].toNat) := by simp [cellsOf, h]
theorem cellsOf_get {l : List UInt8} {j : Nat} {u : Value} (h : (cellsOf l)[j]? = some u) : ∃ hj : j < l.length, u = .int .u8 l[j].toNat := by
  simp only [cellsOf, List.getElem?_map] at h
  rcases Nat.lt_or_ge j l.length with hj | hj
  · rw [List.getElem?_eq_getElem hj] at h
    exact ⟨hj, by simpa using h.symm⟩
  · rw [List.getElem?_eq_none hj] at h
    cases h
theorem cellsOf_one (l : List UInt8) : ∀ u ∈ cellsOf l, u.oneCell' = true := by
  intro u hu
  obtain ⟨x, _, rfl⟩ := List.mem_map.1 hu
  rfl
theorem cellsOf_append (l r : List UInt8) : cellsOf (l ++ r) = cellsOf l ++ cellsOf r := by simp [cellsOf]
theorem bs_of_own {w : World} {base : Nat} {e : TypeId} {a : Option Addr} {n c : Nat} {l : List UInt8} (h : w.ownsRow base e 1 (.slice a n c) n (cellsOf l)) : Bs w a n c l := by
  obtain ⟨hl, h⟩ := h
  have hl' : l.length = n := by rw [cellsOf_len] at hl; omega
  rcases h with ⟨hv, hn⟩ | ⟨g, cap, cur, hv, hb, hh, hnc, hm, hs, ht⟩
  · injection hv with h1 h2 h3
    subst h1; subst h2; subst h3
    have : l = [] := List.eq_nil_of_length_eq_zero hl'
    subst this
    exact Bs.nil_ w
  · injection hv with h1 h2 h3
    subst h1; subst h3
    refine ⟨hl', hnc, hm, fun _ => ⟨g, 0, rfl, ?_, fun i hi => ?_⟩⟩
    · rcases Nat.lt_or_ge g w.heap.size with h | h
      · exact h
      · rw [Array.getElem?_eq_none h] at hh; cases hh
    · have e1 : w.cell? ⟨g, 0 + i, none⟩ = cur[0 + i]? := by simp [World.cell?, hh]
      rw [e1, Nat.zero_add]
      have e2 : (cur.toList.take (n * 1))[i]? = some (Value.int .u8 l[i].toNat) := by rw [ht]; exact cellsOf_at hi
      rw [List.getElem?_take_of_lt (by omega)] at e2
      simpa using e2
def Own (w : World) (B : Nat) (e : TypeId) (a : Option Addr) (n c : Nat) (l : List UInt8) : Prop := w.ownsRow B e 1 (.slice a n c) n (cellsOf l)
theorem Own.bs {w : World} {B : Nat} {e : TypeId} {a : Option Addr} {n c : Nat} {l : List UInt8} (h : Own w B e a n c l) : Bs w a n c l := bs_of_own h
theorem Own.base {w : World} {B : Nat} {e : TypeId} {a : Option Addr} {n c : Nat} {l : List UInt8} (h : Own w B e a n c l) : ∀ x, a = some x → B ≤ x.block ∧ x.block < w.heap.size := by
  rintro x rfl
  exact h.lt x.block rfl
theorem Own.more {w : World} {B B' : Nat} {e : TypeId} {a : Option Addr} {n c : Nat} {l : List UInt8} (h : Own w B e a n c l) (hB : B' ≤ B) : Own w B' e a n c l := by
  obtain ⟨h1, h2⟩ := h
  refine ⟨h1, ?_⟩
  rcases h2 with h2 | ⟨g, cap, cur, hv, hb, r⟩
  · exact .inl h2
  · exact .inr ⟨g, cap, cur, hv, by omega, r⟩
theorem Own.keep {w w' : World} {B : Nat} {e : TypeId} {a : Option Addr} {n c : Nat} {l : List UInt8} (h : Own w B e a n c l) (hk : ∀ x, a = some x → w'.heap[x.block]? = w.heap[x.block]?) : Own w' B e a n c l := by
  obtain ⟨h1, h2⟩ := h
  refine ⟨h1, ?_⟩
  rcases h2 with h2 | ⟨g, cap, cur, hv, hb, hh, r⟩
  · exact .inl h2
  · refine .inr ⟨g, cap, cur, hv, hb, ?_, r⟩
    injection hv with hv
    rw [hk _ hv]
    exact hh
theorem Own.below {w w' : World} {B : Nat} {e : TypeId} {a : Option Addr} {n c : Nat} {l : List UInt8} (h : Own w B e a n c l) (hb : Below w.heap.size w w') : Own w' B e a n c l :=
  h.keep fun x hx => hb.block _ (h.base x hx).2
theorem Own.form {w : World} {B : Nat} {e : TypeId} {v : Value} {n : Nat} {l : List UInt8} (h : w.ownsRow B e 1 v n (cellsOf l)) : ∃ a c, v = .slice a n c ∧ Own w B e a n c l := by
  rcases h.2 with ⟨rfl, rfl⟩ | ⟨g, cap, cur, rfl, _⟩
  · exact ⟨none, 0, rfl, h⟩
  · exact ⟨_, _, rfl, h⟩
def Blk (w : World) (g : Nat) (t : TypeId) (cs : Array Value) : Prop := w.heap[g]? = some (.cells cs t (0, 0))
theorem Blk.lt {w : World} {g : Nat} {t : TypeId} {cs : Array Value} (h : Blk w g t cs) : g < w.heap.size := by
  rcases Nat.lt_or_ge g w.heap.size with hg | hg
  · exact hg
  · unfold Blk at h; rw [Array.getElem?_eq_none hg] at h; cases h
theorem Blk.cell {w : World} {g : Nat} {t : TypeId} {cs : Array Value} (h : Blk w g t cs) (i : Nat) : w.cell? ⟨g, i, none⟩ = cs[i]? := by
  unfold Blk at h
  simp [World.cell?, h]
theorem Blk.frozen {w : World} {g : Nat} {t : TypeId} {cs : Array Value} (h : Blk w g t cs) (i : Nat) : w.frozen? ⟨g, i, none⟩ = false := by
  unfold Blk at h
  simp [World.frozen?, h]
theorem Blk.new (w : World) (t : TypeId) (cs : Array Value) : Blk (w.alloc (.cells cs t)) w.heap.size t cs := by
  show (w.heap.push _)[w.heap.size]? = _
  simp
theorem Blk.keep {w w' : World} {g : Nat} {t : TypeId} {cs : Array Value} (h : Blk w g t cs) (hk : w'.heap[g]? = w.heap[g]?) : Blk w' g t cs := hk.trans h
theorem Blk.below {w w' : World} {g B : Nat} {t : TypeId} {cs : Array Value} (h : Blk w g t cs) (hb : Below B w w') (hg : g < B) : Blk w' g t cs := h.keep (hb.block g hg)
theorem Blk.set_ {w : World} {g : Nat} {t : TypeId} {cs : Array Value} (h : Blk w g t cs) (i : Nat) (u : Value) : Blk (w.setCell ⟨g, i, none⟩ u) g t (cs.setIfInBounds i u) := by
  unfold Blk at h ⊢
  simp [World.setCell, Array.getElem?_modify, h]
theorem Blk.drewN {w : World} {g : Nat} {t : TypeId} {cs : Array Value} (h : Blk w g t cs) (k : Nat) : Blk (w.drewN k) g t cs := h
theorem Blk.alloc {w : World} {g : Nat} {t : TypeId} {cs : Array Value} (h : Blk w g t cs) (o : Obj) : Blk (w.alloc o) g t cs := h.keep (Below.heap_alloc w o g h.lt)
theorem Blk.far {w : World} {g : Nat} {t : TypeId} {cs : Array Value} (h : Blk w g t cs) {p : Addr} (hp : g ≠ p.block) (u : Value) : Blk (w.setCell p u) g t cs := h.keep (Below.heap_setCell w p u g hp)
theorem Own.far {w : World} {B : Nat} {e : TypeId} {a : Option Addr} {n c : Nat} {l : List UInt8} (h : Own w B e a n c l) {p : Addr} (hp : ∀ x, a = some x → x.block ≠ p.block) (u : Value) : Own (w.setCell p u) B e a n c l :=
  h.keep fun x hx => Below.heap_setCell w p u x.block (hp x hx)
theorem cellsOf_set (l : List UInt8) (j : Nat) (x : UInt8) : cellsOf (l.set j x) = (cellsOf l).set j (.int .u8 x.toNat) := by simp [cellsOf]
theorem Own.stored {w : World} {B : Nat} {e : TypeId} {g n c : Nat} {l : List UInt8} (h : Own w B e (some ⟨g, 0, none⟩) n c l) (j : Nat) (x : UInt8) : Own (w.setCell ⟨g, j, none⟩ (.int .u8 x.toNat)) B e (some ⟨g, 0, none⟩) n c (l.set j x) := by
  unfold Own
  rw [cellsOf_set]
  exact (World.ownsRow.stored h j _).1
theorem Own.cell {w : World} {B : Nat} {e : TypeId} {g n c : Nat} {l : List UInt8} (h : Own w B e (some ⟨g, 0, none⟩) n c l) {j : Nat} (hj : j < l.length) : w.cell? ⟨g, j, none⟩ = some (.int .u8 l[j].toNat) := by
  have hn : l.length = n := h.bs.len
  rw [World.ownsRow.cellAt h j (by omega)]
  exact cellsOf_at hj
theorem Own.frozen {w : World} {B : Nat} {e : TypeId} {g n c : Nat} {l : List UInt8} (h : Own w B e (some ⟨g, 0, none⟩) n c l) (j : Nat) : w.frozen? ⟨g, j, none⟩ = false := World.ownsRow.frozenAt h j
theorem made_zeros (n : Nat) : (madeCells (Value.int .u8 0).cells (n * 1)).toList = cellsOf (List.replicate n 0) := by
  apply List.ext_getElem
  · simp [madeCells, cellsOf]
  · intro i h1 h2
    simp [madeCells, cellsOf, Value.cells]
    rw [show i % 1 = 0 from Nat.mod_one i]
    rfl
theorem news1 (w : World) (x : Value) (e : TypeId) : ∀ (j : Nat) (u : Value), [x][j]? = some u → (w.alloc (Obj.cells #[x] e)).cell? ((⟨w.heap.size, 0, none⟩ : Addr).add j) = some u := by
  intro j u h
  cases j with
  | zero =>
    have e1 : (⟨w.heap.size, 0, none⟩ : Addr).add 0 = ⟨w.heap.size, 0, none⟩ := rfl
    rw [e1, (Blk.new w e #[x]).cell 0]
    simpa using h
  | succ j => simp at h
theorem Own.append_form {w : World} {B : Nat} {e : TypeId} {v : Value} {n : Nat} {l : List UInt8} {x : UInt8} {z : Int} (h : w.ownsRow B e 1 v n (cellsOf l ++ [Value.int .u8 z])) (hz : z = x.toNat) : ∃ a c, v = .slice a n c ∧ Own w B e a n c (l ++ [x]) := by
  subst hz
  have e1 : cellsOf l ++ [Value.int .u8 x.toNat] = cellsOf (l ++ [x]) := by simp [cellsOf]
  rw [e1] at h
  exact Own.form h
theorem only_refl (w : World) (r : Option Nat) : w.grownBy w r := ⟨rfl, rfl, rfl, Nat.le_refl _, fun _ _ _ => rfl⟩
theorem only_trans {a b c : World} {r : Option Nat} (h : a.grownBy b r) (k : b.grownBy c r) : a.grownBy c r :=
  ⟨k.os.trans h.os, k.tape.trans h.tape, k.output.trans h.output, Nat.le_trans h.size k.size, fun i hi hn => (k.block i (Nat.lt_of_lt_of_le hi h.size) hn).trans (h.block i hi hn)⟩
theorem only_below {a w : World} (h : Below a.heap.size a w) (r : Option Nat) : a.grownBy w r := ⟨h.os, h.tape, h.output, h.size, fun i hi _ => h.block i hi⟩
theorem only_drewN {a w : World} {r : Option Nat} (h : a.grownBy w r) (n : Nat) : a.grownBy (w.drewN n) r := ⟨h.os, h.tape, h.output, h.size, h.block⟩
theorem only_alloc {a w : World} {r : Option Nat} (h : a.grownBy w r) (o : Obj) : a.grownBy (w.alloc o) r :=
  only_trans h (only_below ((Below.refl _ _).alloc (Nat.le_refl _) o) r)
theorem only_setCell {a w : World} {g : Nat} (h : a.grownBy w (some g)) {p : Addr} (hp : p.block = g ∨ a.heap.size ≤ p.block) (u : Value) : a.grownBy (w.setCell p u) (some g) :=
  ⟨h.os, h.tape, h.output, by simpa [World.setCell] using h.size, fun i hi hn => (Below.heap_setCell w p u i (by
    rintro rfl
    rcases hp with hp | hp
    · exact hn (by rw [hp])
    · omega)).trans (h.block i hi hn)⟩
theorem below_only {B : Nat} {a b c : World} {g : Nat} (h : Below B a b) (k : b.grownBy c (some g)) (hB : B ≤ b.heap.size) (hg : B ≤ g) : Below B a c :=
  h.grown k hB fun _ e => by injection e with e; omega
theorem Bs.only {w w' : World} {a : Option Addr} {n c g : Nat} {l : List UInt8} (h : Bs w a n c l) (hk : w.grownBy w' (some g)) (hne : ∀ x, a = some x → x.block ≠ g) : Bs w' a n c l :=
  ⟨h.1, h.2.1, h.2.2.1, fun hn => by
    obtain ⟨b, off, e, hb, hc⟩ := h.2.2.2 hn
    refine ⟨b, off, e, Nat.lt_of_lt_of_le hb hk.size, fun i hi => ?_⟩
    rw [World.cell?_of_block (a := ⟨b, off + i, none⟩) (hk.block b hb (fun e2 => hne _ e (by injection e2)))]
    exact hc i hi⟩
theorem Blk.only {w w' : World} {g h : Nat} {t : TypeId} {cs : Array Value} (hg : Blk w g t cs) (hk : w.grownBy w' (some h)) (hne : g ≠ h) : Blk w' g t cs :=
  hg.keep (hk.block g hg.lt (fun e => hne (by injection e)))
theorem Own.only {w w' : World} {B : Nat} {e : TypeId} {a : Option Addr} {n c g : Nat} {l : List UInt8} (h : Own w B e a n c l) (hk : w.grownBy w' (some g)) (hne : ∀ x, a = some x → x.block ≠ g) : Own w' B e a n c l :=
  h.keep fun x hx => hk.block _ (h.base x hx).2 (fun e2 => hne x hx (by injection e2))
end Go.Proofs.Ytkkomaohcijhnaa
namespace Go.Proofs.Ytkkomaohcijhnaa
open Go.RowKit
def idByte (c n : Nat) (k : Bool) : UInt8 := UInt8.ofNat (c * 64 + n + if k then 32 else 0)
theorem and31 (x : UInt8) : bits BinOp.and IntKind.u8 (x.toNat : Int) 31 = ((x.toNat % 32 : Nat) : Int) := by
  have h : ∀ i : Fin 256, bits BinOp.and IntKind.u8 ((i.val : Nat) : Int) 31 = ((i.val % 32 : Nat) : Int) := by decide +kernel
  exact h ⟨x.toNat, x.toNat_lt⟩
theorem and32 (x : UInt8) : (bits BinOp.and IntKind.u8 (x.toNat : Int) 32 != 0) = (x.toNat / 32 % 2 == 1) := by
  have h : ∀ i : Fin 256, (bits BinOp.and IntKind.u8 ((i.val : Nat) : Int) 32 != 0) = (i.val / 32 % 2 == 1) := by decide +kernel
  exact h ⟨x.toNat, x.toNat_lt⟩
theorem tag_or {c n : Nat} (hc : c ≤ 3) (hn : n ≤ 30) : bits BinOp.or IntKind.i64 ((c : Int) * 64) (n : Int) = ((c * 64 + n : Nat) : Int) := by
  have h : ∀ (i : Fin 4) (j : Fin 31), bits BinOp.or IntKind.i64 (((i.val : Nat) : Int) * 64) ((j.val : Nat) : Int) = ((i.val * 64 + j.val : Nat) : Int) := by decide +kernel
  exact h ⟨c, by omega⟩ ⟨n, by omega⟩
theorem tag_or32 {c n : Nat} (hc : c ≤ 3) (hn : n ≤ 30) : bits BinOp.or IntKind.u8 (((c * 64 + n : Nat) : Int) % 256) 32 = ((c * 64 + n + 32 : Nat) : Int) := by
  have h : ∀ (i : Fin 4) (j : Fin 31), bits BinOp.or IntKind.u8 (((i.val * 64 + j.val : Nat) : Int) % 256) 32 = ((i.val * 64 + j.val + 32 : Nat) : Int) := by decide +kernel
  exact h ⟨c, by omega⟩ ⟨n, by omega⟩
theorem ret_tag {a b : Int} {z : Value} (h : a = b) : Ending.returned (.tuple #[.int .u8 a, z]) = .returned (.tuple #[.int .u8 b, z]) := by rw [h]
theorem idByte_false (c n : Nat) : ((idByte c n false).toNat : Int) = ((c * 64 + n : Nat) : Int) % 256 := by simp [idByte]
theorem idByte_true {c n : Nat} (hc : c ≤ 3) (hn : n ≤ 30) : ((idByte c n true).toNat : Int) = ((c * 64 + n + 32 : Nat) : Int) := by
  simp [idByte]
  omega
theorem identifier_ok {c n : Nat} (hc : c ≤ 3) (hn : n ≤ 30) (k : Bool) (w : World) :
    Calls Try.prog 48 #[.int .i64 c, .bool k, .int .i64 n] w fun e w' => e = .returned (.tuple #[.int .u8 (idByte c n k).toNat, .int .i64 0]) ∧ w = w' := by
  cases k
  · go_enter Try.func48, Try.ntmps48
    go_wp2
    go_ret2
    exact ⟨ret_tag (by rw [idByte_false _ _, tag_or hc hn]), rfl⟩
  · go_enter Try.func48, Try.ntmps48
    go_wp2
    go_ret2
    exact ⟨ret_tag (by rw [idByte_true hc hn, tag_or hc hn, tag_or32 hc hn]), rfl⟩
theorem ref_identifier_ok {c n : Nat} (hc : c ≤ 3) (hn : n ≤ 30) (k : Bool) (w : World) :
    Calls Try.prog 36 #[.int .i64 c, .bool k, .int .i64 n] w fun e w' => e = .returned (.tuple #[.int .u8 (idByte c n k).toNat, .int .i64 0]) ∧ w = w' := by
  cases k
  · go_enter Try.func36, Try.ntmps36
    go_wp2
    go_ret2
    exact ⟨ret_tag (by rw [idByte_false _ _]; omega), rfl⟩
  · go_enter Try.func36, Try.ntmps36
    go_wp2
    go_ret2
    exact ⟨ret_tag (by rw [idByte_true hc hn]; omega), rfl⟩
theorem identifier_bad {c n : Int} (h : c < 0 ∨ 3 < c ∨ n < 0 ∨ 30 < n) (k : Bool) (w : World) :
    Calls Try.prog 48 #[.int .i64 c, .bool k, .int .i64 n] w fun e w' => e = .returned (.tuple #[.int .u8 0, .int .i64 9]) ∧ w = w' := by
  have H := Lib.hid h
  clear h
  go_enter Try.func48, Try.ntmps48
  go_wp2
  all_goals first | (exfalso; have := H.out; omega) | (go_ret2; exact ⟨rfl, rfl⟩)
theorem ref_identifier_bad {c n : Int} (h : c < 0 ∨ 3 < c ∨ n < 0 ∨ 30 < n) (k : Bool) (w : World) :
    Calls Try.prog 36 #[.int .i64 c, .bool k, .int .i64 n] w fun e w' => e = .returned (.tuple #[.int .u8 0, .int .i64 9]) ∧ w = w' := by
  have H := Lib.hid h
  clear h
  go_enter Try.func36, Try.ntmps36
  go_wp2
  all_goals first | (exfalso; have := H.out; omega) | (go_ret2; exact ⟨rfl, rfl⟩)
def idOk (x : UInt8) : Bool := x.toNat % 32 != 31
theorem ret_id {a a' c c' : Int} {b b' : Bool} (h1 : a = a') (h2 : b = b') (h3 : c = c') : Ending.returned (.tuple #[.int .i64 a, .bool b, .int .i64 c, .int .i64 0]) = .returned (.tuple #[.int .i64 a', .bool b', .int .i64 c', .int .i64 0]) := by rw [h1, h2, h3]
theorem readIdentifier_ok {x : UInt8} (w : World) (h : idOk x = true) :
    Calls Try.prog 60 #[.int .u8 x.toNat] w fun e w' => e = .returned (.tuple #[.int .i64 (x.toNat / 64 : Nat), .bool (x.toNat / 32 % 2 == 1), .int .i64 (x.toNat % 32 : Nat), .int .i64 0]) ∧ w = w' := by
  have hx := byte_bd x
  have h1 := and31 x
  have h2 := and32 x
  obtain ⟨r, hr⟩ : ∃ r : Nat, Hid (x.toNat % 32 = r) := ⟨_, rfl⟩
  have hr1 : (0 : Int) ≤ r ∧ (r : Int) ≤ 30 := by
    have := hr.out
    simp [idOk] at h
    omega
  rw [hr.out] at h1 ⊢
  generalize (x.toNat / 32 % 2 == 1) = b at *
  clear h
  go_enter Try.func60, Try.ntmps60
  go_wp2
  exact bodyPost_ret (v := .tuple #[.int .i64 (x.toNat / 64), .bool b, .int .i64 r, .int .i64 0]) (by simp [results, Try.results60, go_sem]) rfl ⟨ret_id (by omega) rfl rfl, rfl⟩
theorem readIdentifier_bad {x : UInt8} (w : World) (h : idOk x = false) :
    Calls Try.prog 60 #[.int .u8 x.toNat] w fun e w' => e = .returned (.tuple #[.int .i64 0, .bool false, .int .i64 0, .int .i64 3]) ∧ w = w' := by
  have hx := byte_bd x
  have h1 := and31 x
  have hr : x.toNat % 32 = 31 := by simpa [idOk] using h
  rw [hr] at h1
  clear h hr
  go_enter Try.func60, Try.ntmps60
  go_wp2
  exact bodyPost_ret (v := .tuple #[.int .i64 0, .bool false, .int .i64 0, .int .i64 3]) (by simp [results, Try.results60, go_sem]) rfl ⟨rfl, rfl⟩
theorem ref_readIdentifier_bad {x : UInt8} (w : World) (h : idOk x = false) :
    Calls Try.prog 63 #[.int .u8 x.toNat] w fun e w' => e = .returned (.tuple #[.int .i64 0, .bool false, .int .i64 0, .int .i64 3]) ∧ w = w' := by
  have hx := byte_bd x
  have h1 : ((x.toNat : Int) % 32 == 31) = true := by
    simp [idOk] at h
    simp
    omega
  clear h
  go_enter Try.func63, Try.ntmps63
  go_wp2
  exact bodyPost_ret (v := .tuple #[.int .i64 0, .bool false, .int .i64 0, .int .i64 3]) (by simp [results, Try.results63, go_sem]) rfl ⟨rfl, rfl⟩
theorem ref_readIdentifier_ok {x : UInt8} (w : World) (h : idOk x = true) :
    Calls Try.prog 63 #[.int .u8 x.toNat] w fun e w' => e = .returned (.tuple #[.int .i64 (x.toNat / 64 : Nat), .bool (x.toNat / 32 % 2 == 1), .int .i64 (x.toNat % 32 : Nat), .int .i64 0]) ∧ w = w' := by
  have hx := byte_bd x
  have h1 : ((x.toNat : Int) % 32 == 31) = false := by
    simp [idOk] at h
    simp
    omega
  clear h
  go_enter Try.func63, Try.ntmps63
  go_wp2
  exact bodyPost_ret (v := .tuple #[.int .i64 (x.toNat / 64), .bool (((x.toNat : Int) / 32 % 2 == 1)), .int .i64 (x.toNat % 32), .int .i64 0]) (by simp [results, Try.results63, go_sem]) rfl ⟨ret_id (by omega) (by rw [Bool.eq_iff_iff, beq_iff_eq, beq_iff_eq]; omega) (by omega), rfl⟩
end Go.Proofs.Ytkkomaohcijhnaa
namespace Go.Proofs.Ytkkomaohcijhnaa
structure RH where
  cls : Nat
  num : Nat
  con : Bool
  len : Nat
  size : Nat
  code : Nat
  off : Nat
def rdHead (l : List UInt8) : RH :=
  match l with
  | [] => ⟨0, 0, false, 0, 0, 1, 0⟩
  | x :: r =>
    if idOk x = false then ⟨0, 0, false, 0, 0, 3, 0⟩
    else if (rdLen r).code = 0 then ⟨x.toNat / 64, x.toNat % 32, x.toNat / 32 % 2 == 1, (rdLen r).n, (rdLen r).size + 1, 0, 0⟩
    else ⟨0, 0, false, 0, 0, (rdLen r).code, (rdLen r).off + 1⟩
theorem rdHead_tag {x : UInt8} {r : List UInt8} (h : idOk x = false) : rdHead (x :: r) = ⟨0, 0, false, 0, 0, 3, 0⟩ := by
  unfold rdHead
  simp only []
  rw [if_pos h]
theorem rdHead_ok {x : UInt8} {r : List UInt8} (h : idOk x = true) (h2 : (rdLen r).code = 0) : rdHead (x :: r) = ⟨x.toNat / 64, x.toNat % 32, x.toNat / 32 % 2 == 1, (rdLen r).n, (rdLen r).size + 1, 0, 0⟩ := by
  unfold rdHead
  simp only []
  rw [if_neg (by simp [h]), if_pos h2]
theorem rdHead_len {x : UInt8} {r : List UInt8} (h : idOk x = true) (h2 : ¬ (rdLen r).code = 0) : rdHead (x :: r) = ⟨0, 0, false, 0, 0, (rdLen r).code, (rdLen r).off + 1⟩ := by
  unfold rdHead
  simp only []
  rw [if_neg (by simp [h]), if_neg h2]
def encB (c n : Nat) (k : Bool) (l : List UInt8) : List UInt8 := idByte c n k :: (lenOct l.length ++ l)
theorem encB_len (c n : Nat) (k : Bool) (l : List UInt8) : (encB c n k l).length = 1 + ((lenOct l.length).length + l.length) := by
  unfold encB
  rw [List.length_cons, List.length_append, Nat.add_comm]
def noHd (code off : Nat) : RH := ⟨0, 0, false, 0, 0, code, off⟩
theorem rdHead_err (l : List UInt8) (h : ¬ (rdHead l).code = 0) : rdHead l = noHd (rdHead l).code (rdHead l).off := by
  rcases l with _ | ⟨x, r⟩
  · rfl
  · by_cases h1 : idOk x = false
    · rw [rdHead_tag h1]; rfl
    · have h1' : idOk x = true := by simpa using h1
      by_cases h2 : (rdLen r).code = 0
      · rw [rdHead_ok h1' h2] at h
        exact absurd rfl h
      · rw [rdHead_len h1' h2]; rfl
structure RN where
  h : RH
  cont : List UInt8
  rest : List UInt8
def rdNext (l : List UInt8) : RN :=
  if (rdHead l).code = 0 then
    if l.length - (rdHead l).size < (rdHead l).len then ⟨noHd 1 l.length, [], []⟩
    else ⟨rdHead l, (l.drop (rdHead l).size).take (rdHead l).len, (l.drop (rdHead l).size).drop (rdHead l).len⟩
  else ⟨rdHead l, [], []⟩
theorem rdHead_size {l : List UInt8} (h : (rdHead l).code = 0) : (rdHead l).size ≤ l.length ∧ 2 ≤ (rdHead l).size ∧ (rdHead l).len ≤ 2147483647 ∧ (rdHead l).size ≤ 6 ∧ (rdHead l).off = 0 := by
  rcases l with _ | ⟨x, r⟩
  · exact absurd h (by decide)
  · by_cases h1 : idOk x = false
    · rw [rdHead_tag h1] at h
      exact absurd h (by decide)
    · have h1' : idOk x = true := by simpa using h1
      by_cases h2 : (rdLen r).code = 0
      · rw [rdHead_ok h1' h2]
        have := rdLen_ok h2
        have := rdLen_bd r
        simp
        omega
      · rw [rdHead_len h1' h2] at h
        exact absurd h h2
end Go.Proofs.Ytkkomaohcijhnaa
namespace Go.Proofs.Ytkkomaohcijhnaa
theorem rdLen_lenOct {n : Nat} (h : n ≤ 2147483647) (r : List UInt8) : rdLen (lenOct n ++ r) = ⟨n, (lenOct n).length, 0, 0⟩ := by
  by_cases hs : n < 128
  · rw [lenOct_short hs, digits_small (by omega)]
    have e : (UInt8.ofNat n).toNat = n := by rw [UInt8.toNat_ofNat']; omega
    show rdLen (UInt8.ofNat n :: r) = _
    rw [rdLen_short (by rw [e]; exact hs), e]
    rfl
  · have hd := ndig_bd (n := n) (by omega)
    have hd4 := ndig_le4 h
    have hv : (lenHead (ndig n)).toNat = 128 + ndig n := by have := lenHead_val hd.2; omega
    have hdl := digits_len n
    have ht : (digits n ++ r).take (ndig n) = digits n := by rw [← hdl, List.take_left']; rfl
    have hb := bnum_digits n (by omega)
    have hl := lenOct_len hs
    rw [lenOct_long hs]
    show rdLen (lenHead (ndig n) :: (digits n ++ r)) = _
    rw [rdLen_long hv hd.1 hd4, if_neg (by rw [List.length_append, hdl]; omega), ht, hb, if_pos ⟨h, hl⟩, List.length_cons, hdl]
theorem idByte_val {c n : Nat} (hc : c ≤ 3) (hn : n ≤ 30) (k : Bool) : (idByte c n k).toNat = c * 64 + n + (if k then 32 else 0) := by
  unfold idByte
  rw [UInt8.toNat_ofNat']
  cases k
  · simp; omega
  · simp; omega
theorem idByte_ok {c n : Nat} (hc : c ≤ 3) (hn : n ≤ 30) (k : Bool) : idOk (idByte c n k) = true ∧ (idByte c n k).toNat / 64 = c ∧ (idByte c n k).toNat % 32 = n ∧ ((idByte c n k).toNat / 32 % 2 == 1) = k := by
  have h := idByte_val hc hn k
  unfold idOk
  rw [h]
  cases k
  · simp
    omega
  · simp
    omega
theorem idByte_read {x : UInt8} (h : idOk x = true) : idByte (x.toNat / 64) (x.toNat % 32) (x.toNat / 32 % 2 == 1) = x ∧ x.toNat / 64 ≤ 3 ∧ x.toNat % 32 ≤ 30 := by
  have hx := x.toNat_lt
  simp [idOk] at h
  refine ⟨?_, by omega, by omega⟩
  apply UInt8.toNat_inj.1
  rw [idByte_val (by omega) (by omega)]
  by_cases hb : x.toNat / 32 % 2 = 1
  · rw [show (x.toNat / 32 % 2 == 1) = true from by simpa using hb]
    simp
    omega
  · rw [show (x.toNat / 32 % 2 == 1) = false from by simpa using hb]
    simp
    omega
theorem rdHead_enc {c n m : Nat} (hc : c ≤ 3) (hn : n ≤ 30) (k : Bool) (hm : m ≤ 2147483647) (r : List UInt8) : rdHead (idByte c n k :: (lenOct m ++ r)) = ⟨c, n, k, m, (lenOct m).length + 1, 0, 0⟩ := by
  obtain ⟨h1, h2, h3, h4⟩ := idByte_ok hc hn k
  have hl := rdLen_lenOct hm r
  rw [rdHead_ok h1 (by rw [hl]), hl, h2, h3, h4]
theorem rdNext_enc {c n : Nat} (hc : c ≤ 3) (hn : n ≤ 30) (k : Bool) {l : List UInt8} (hm : l.length ≤ 2147483647) (r : List UInt8) :
    rdNext (encB c n k l ++ r) = ⟨⟨c, n, k, l.length, (lenOct l.length).length + 1, 0, 0⟩, l, r⟩ := by
  have e : encB c n k l ++ r = idByte c n k :: (lenOct l.length ++ (l ++ r)) := by unfold encB; simp
  have h := rdHead_enc hc hn k hm (l ++ r)
  have hlen : (idByte c n k :: (lenOct l.length ++ (l ++ r))).length = (lenOct l.length).length + 1 + (l.length + r.length) := by simp; omega
  have hdrop : (idByte c n k :: (lenOct l.length ++ (l ++ r))).drop ((lenOct l.length).length + 1) = l ++ r := by
    rw [List.drop_succ_cons, List.drop_left']
    rfl
  rw [e]
  unfold rdNext
  rw [h]
  simp only []
  rw [if_pos trivial, hlen, if_neg (by omega), hdrop, List.take_left' rfl, List.drop_left' rfl]
theorem enc_of_next {l : List UInt8} (h : (rdNext l).h.code = 0) :
    (rdNext l).h.cls ≤ 3 ∧ (rdNext l).h.num ≤ 30 ∧ (rdNext l).h.off = 0 ∧ encB (rdNext l).h.cls (rdNext l).h.num (rdNext l).h.con (rdNext l).cont ++ (rdNext l).rest = l := by
  unfold rdNext at h ⊢
  by_cases hq : (rdHead l).code = 0
  · rw [if_pos hq] at h ⊢
    by_cases hs : l.length - (rdHead l).size < (rdHead l).len
    · rw [if_pos hs] at h
      simp [noHd] at h
    · rw [if_neg hs]
      simp only []
      rcases l with _ | ⟨x, r⟩
      · exact absurd hq (by decide)
      · by_cases h1 : idOk x = false
        · rw [rdHead_tag h1] at hq
          exact absurd hq (by decide)
        · have h1' : idOk x = true := by simpa using h1
          by_cases h2 : (rdLen r).code = 0
          · obtain ⟨g1, g2, g3⟩ := idByte_read h1'
            obtain ⟨r1, r2, r3, r4⟩ := rdLen_ok h2
            rw [rdHead_ok h1' h2] at hs ⊢
            simp only [List.length_cons] at hs
            simp only []
            refine ⟨g2, g3, trivial, ?_⟩
            have hl : ((r.drop (rdLen r).size).take (rdLen r).n).length = (rdLen r).n := by simp; omega
            rw [List.drop_succ_cons]
            unfold encB
            rw [g1, hl, r1, List.cons_append, List.append_assoc, List.take_append_drop, List.take_append_drop]
          · rw [rdHead_len h1' h2] at hq
            exact absurd hq h2
  · rw [if_neg hq] at h
    exact absurd h hq
theorem within_next {l : List UInt8} (h : ¬ (rdNext l).h.code = 0) : (rdNext l).h.off ≤ l.length ∧ (rdNext l).cont = [] ∧ (rdNext l).rest = [] := by
  unfold rdNext at h ⊢
  by_cases hq : (rdHead l).code = 0
  · rw [if_pos hq] at h ⊢
    by_cases hs : l.length - (rdHead l).size < (rdHead l).len
    · rw [if_pos hs]
      exact ⟨Nat.le_refl _, rfl, rfl⟩
    · rw [if_neg hs] at h
      exact absurd hq h
  · rw [if_neg hq]
    refine ⟨?_, rfl, rfl⟩
    rcases l with _ | ⟨x, r⟩
    · decide
    · by_cases h1 : idOk x = false
      · rw [rdHead_tag h1]
        exact Nat.zero_le _
      · have h1' : idOk x = true := by simpa using h1
        by_cases h2 : (rdLen r).code = 0
        · rw [rdHead_ok h1' h2] at hq
          exact absurd rfl hq
        · rw [rdHead_len h1' h2]
          have := rdLen_bd r
          show (rdLen r).off + 1 ≤ r.length + 1
          omega
end Go.Proofs.Ytkkomaohcijhnaa
namespace Go.Proofs.Ytkkomaohcijhnaa
structure El where
  cls : Int
  num : Int
  con : Bool
  st : Int
  bo : Int
  en : Int
  deriving DecidableEq
def el0 : El := ⟨0, 0, false, 0, 0, 0⟩
def elOf (h : RH) (p : Nat) : El := ⟨h.cls, h.num, h.con, p, p + h.size, p + h.size + h.len⟩
def elN (l : List UInt8) : Nat := (rdNext l).h.size + (rdNext l).h.len
theorem rdNext_h {l : List UInt8} (h : (rdNext l).h.code = 0) : (rdNext l).h = rdHead l ∧ (rdHead l).code = 0 ∧ (rdHead l).size + (rdHead l).len ≤ l.length ∧ (rdNext l).cont = (l.drop (rdHead l).size).take (rdHead l).len ∧ (rdNext l).rest = (l.drop (rdHead l).size).drop (rdHead l).len := by
  unfold rdNext at h ⊢
  split at h
  · rename_i hc
    split at h
    · exact absurd h (by show ¬ (1 : Nat) = 0; decide)
    · rename_i hl
      have hs := rdHead_size hc
      rw [if_pos hc, if_neg hl]
      refine ⟨rfl, hc, by omega, rfl, rfl⟩
  · rename_i hc
    exact absurd h hc
theorem elN_bd {l : List UInt8} (h : (rdNext l).h.code = 0) : 2 ≤ elN l ∧ elN l ≤ l.length ∧ 2 ≤ (rdNext l).h.size ∧ (rdNext l).h.size ≤ 6 ∧ (rdNext l).h.off = 0 := by
  obtain ⟨h1, h2, h3, _⟩ := rdNext_h h
  have hs := rdHead_size h2
  unfold elN
  rw [h1]
  omega
structure RE where
  els : List El
  code : Nat
  off : Nat
def rdEls (l : List UInt8) (p : Nat) : RE :=
  if l.length = 0 then ⟨[], 0, 0⟩
  else if _hc : (rdNext l).h.code = 0 then
    if (rdEls (l.drop (elN l)) (p + elN l)).code = 0 then ⟨elOf (rdNext l).h p :: (rdEls (l.drop (elN l)) (p + elN l)).els, 0, 0⟩
    else ⟨[], (rdEls (l.drop (elN l)) (p + elN l)).code, (rdEls (l.drop (elN l)) (p + elN l)).off⟩
  else ⟨[], (rdNext l).h.code, (rdNext l).h.off + p⟩
termination_by l.length
decreasing_by all_goals (have := elN_bd _hc; rw [List.length_drop]; omega)
theorem rdEls_nil (p : Nat) : rdEls [] p = ⟨[], 0, 0⟩ := by rw [rdEls]; exact if_pos rfl
theorem rdEls_err {l : List UInt8} (p : Nat) (hl : l.length ≠ 0) (hc : (rdNext l).h.code ≠ 0) : rdEls l p = ⟨[], (rdNext l).h.code, (rdNext l).h.off + p⟩ := by
  rw [rdEls, if_neg hl, dif_neg hc]
theorem rdEls_ok {l : List UInt8} (p : Nat) (hl : l.length ≠ 0) (hc : (rdNext l).h.code = 0) (h2 : (rdEls (l.drop (elN l)) (p + elN l)).code = 0) : rdEls l p = ⟨elOf (rdNext l).h p :: (rdEls (l.drop (elN l)) (p + elN l)).els, 0, 0⟩ := by
  rw [rdEls, if_neg hl, dif_pos hc, if_pos h2]
theorem rdEls_more {l : List UInt8} (p : Nat) (hl : l.length ≠ 0) (hc : (rdNext l).h.code = 0) (h2 : (rdEls (l.drop (elN l)) (p + elN l)).code ≠ 0) : rdEls l p = ⟨[], (rdEls (l.drop (elN l)) (p + elN l)).code, (rdEls (l.drop (elN l)) (p + elN l)).off⟩ := by
  rw [rdEls, if_neg hl, dif_pos hc, if_neg h2]
theorem rdEls_code (l : List UInt8) (p : Nat) : (rdEls l p).code ≠ 0 → (rdEls l p).els = [] := by
  intro h
  by_cases hl : l.length = 0
  · have := List.eq_nil_of_length_eq_zero hl
    subst this
    rw [rdEls_nil] at h
    exact absurd rfl h
  · by_cases hc : (rdNext l).h.code = 0
    · by_cases h2 : (rdEls (l.drop (elN l)) (p + elN l)).code = 0
      · rw [rdEls_ok p hl hc h2] at h
        exact absurd rfl h
      · rw [rdEls_more p hl hc h2]
    · rw [rdEls_err p hl hc]
theorem rdEls_zero (l : List UInt8) (p : Nat) : (rdEls l p).code = 0 → (rdEls l p).off = 0 := by
  intro h
  by_cases hl : l.length = 0
  · have := List.eq_nil_of_length_eq_zero hl
    subst this
    rw [rdEls_nil]
  · by_cases hc : (rdNext l).h.code = 0
    · by_cases h2 : (rdEls (l.drop (elN l)) (p + elN l)).code = 0
      · rw [rdEls_ok p hl hc h2]
      · rw [rdEls_more p hl hc h2] at h
        exact absurd h h2
    · rw [rdEls_err p hl hc] at h
      exact absurd h hc
def addE (acc : List El) (r : RE) : RE := if r.code = 0 then ⟨acc ++ r.els, 0, 0⟩ else ⟨[], r.code, r.off⟩
theorem addE_nil (l : List UInt8) (p : Nat) : addE [] (rdEls l p) = rdEls l p := by
  unfold addE
  split
  · rename_i h
    have h1 := rdEls_zero l p h
    rcases hr : rdEls l p with ⟨e, c, o⟩
    rw [hr] at h h1
    simp only at h h1
    subst h; subst h1
    rfl
  · rename_i h
    have h1 := rdEls_code l p h
    rcases hr : rdEls l p with ⟨e, c, o⟩
    rw [hr] at h1
    simp only at h1
    subst h1
    rfl
theorem addE_end (acc : List El) (p : Nat) : addE acc (rdEls [] p) = ⟨acc, 0, 0⟩ := by rw [rdEls_nil]; unfold addE; rw [if_pos rfl, List.append_nil]
theorem addE_err (acc : List El) {l : List UInt8} (p : Nat) (hl : l.length ≠ 0) (hc : (rdNext l).h.code ≠ 0) : addE acc (rdEls l p) = ⟨[], (rdNext l).h.code, (rdNext l).h.off + p⟩ := by
  rw [rdEls_err p hl hc]; unfold addE; rw [if_neg hc]
theorem addE_step (acc : List El) {l : List UInt8} (p : Nat) (hl : l.length ≠ 0) (hc : (rdNext l).h.code = 0) : addE acc (rdEls l p) = addE (acc ++ [elOf (rdNext l).h p]) (rdEls (l.drop (elN l)) (p + elN l)) := by
  by_cases h2 : (rdEls (l.drop (elN l)) (p + elN l)).code = 0
  · rw [rdEls_ok p hl hc h2]
    unfold addE
    rw [if_pos rfl, if_pos h2, List.append_assoc]
    rfl
  · rw [rdEls_more p hl hc h2]
    unfold addE
    rw [if_neg h2, if_neg h2]
def lstR (l : List UInt8) (f t : Int) : RE := if f < 0 ∨ t < f ∨ (l.length : Int) < t then ⟨[], 9, 0⟩ else rdEls ((l.take t.toNat).drop f.toNat) f.toNat
structure RO where
  el : El
  code : Nat
  off : Nat
def oneR (l : List UInt8) : RO :=
  if (rdNext l).h.code = 0 then
    if (rdNext l).rest.length = 0 then ⟨elOf (rdNext l).h 0, 0, 0⟩ else ⟨el0, 2, elN l⟩
  else ⟨el0, (rdNext l).h.code, (rdNext l).h.off⟩
theorem rest_len {l : List UInt8} (h : (rdNext l).h.code = 0) : (rdNext l).rest.length = l.length - elN l := by
  obtain ⟨h1, _, h3, _, h4⟩ := rdNext_h h
  unfold elN
  rw [h4, h1, List.length_drop, List.length_drop]
  omega
def prtR (l : List UInt8) (c n : Int) : RE :=
  if (oneR l).code = 0 then
    if (oneR l).el.cls = c ∧ (oneR l).el.num = n ∧ (oneR l).el.con = true then lstR l (oneR l).el.bo (oneR l).el.en else ⟨[], 3, 0⟩
  else ⟨[], (oneR l).code, (oneR l).off⟩
end Go.Proofs.Ytkkomaohcijhnaa
namespace Go.Proofs.Ytkkomaohcijhnaa
open Go.RowKit
structure Sl where
  a : Option Addr
  n : Nat
  c : Nat
  l : List UInt8
def tot (ss : List Sl) : Nat := (ss.map (·.n)).sum
def cat (ss : List Sl) : List UInt8 := (ss.map (·.l)).flatten
theorem tot_take {ss : List Sl} {k : Nat} (h : k < ss.length) : tot (ss.take (k + 1)) = tot (ss.take k) + ss[k].n := by
  unfold tot
  rw [List.take_succ_eq_append_getElem h, List.map_append, List.sum_append]
  simp
theorem cat_take {ss : List Sl} {k : Nat} (h : k < ss.length) : cat (ss.take (k + 1)) = cat (ss.take k) ++ ss[k].l := by
  unfold cat
  rw [List.take_succ_eq_append_getElem h, List.map_append, List.flatten_append]
  simp
theorem tot_take_le (ss : List Sl) (k : Nat) : tot (ss.take k) ≤ tot ss := by
  have h : tot ss = tot (ss.take k) + tot (ss.drop k) := by
    unfold tot
    conv => lhs; rw [← List.take_append_drop k ss]
    rw [List.map_append, List.sum_append]
  omega
def Rows (w : World) (b : Nat) (ss : List Sl) : Prop :=
  ∀ (i : Nat) (h : i < ss.length), w.cell? ⟨b, i, none⟩ = some (.slice ss[i].a ss[i].n ss[i].c) ∧ Bs w ss[i].a ss[i].n ss[i].c ss[i].l
def Sl.v (s : Sl) : Value := .slice s.a s.n s.c
def Rw (w : World) (a : Option Addr) (n c : Nat) (ss : List Sl) : Prop :=
  (ss.length = n ∧ n ≤ c ∧ c ≤ maxLen ∧ (0 < n → ∃ b off, a = some ⟨b, off, none⟩ ∧ b < w.heap.size ∧ ∀ i (h : i < ss.length), w.cell? ⟨b, off + i, none⟩ = some (.slice ss[i].a ss[i].n ss[i].c))) ∧ ∀ i (h : i < ss.length), Bs w ss[i].a ss[i].n ss[i].c ss[i].l
theorem Rw.len {w : World} {a : Option Addr} {n c : Nat} {ss : List Sl} (h : Rw w a n c ss) : ss.length = n := h.1.1
theorem Rw.keep {w w' : World} {a : Option Addr} {n c : Nat} {ss : List Sl} (h : Rw w a n c ss) (hs : w.heap.size ≤ w'.heap.size) (hk : ∀ p : Addr, p.block < w.heap.size → w'.cell? p = w.cell? p) : Rw w' a n c ss :=
  ⟨⟨h.1.1, h.1.2.1, h.1.2.2.1, fun hn => by
    obtain ⟨b, off, e, hb, hc⟩ := h.1.2.2.2 hn
    exact ⟨b, off, e, by omega, fun i hi => (hk _ hb).trans (hc i hi)⟩⟩, fun i hi => (h.2 i hi).keep hs hk⟩
theorem Rw.below {w w' : World} {a : Option Addr} {n c : Nat} {ss : List Sl} (h : Rw w a n c ss) (hb : Below w.heap.size w w') : Rw w' a n c ss := h.keep hb.size fun _ hp => hb.cell hp
theorem Rw.drewN {w : World} {a : Option Addr} {n c : Nat} {ss : List Sl} (h : Rw w a n c ss) (k : Nat) : Rw (w.drewN k) a n c ss := h
theorem Rw.drew {w : World} {a : Option Addr} {n c : Nat} {ss : List Sl} (h : Rw w a n c ss) : Rw w.drew a n c ss := h
theorem Rw.alloc {w : World} {a : Option Addr} {n c : Nat} {ss : List Sl} (h : Rw w a n c ss) (o : Obj) : Rw (w.alloc o) a n c ss := h.keep (by simp) fun p hp => World.cell?_alloc_lt w o p hp
theorem Rw.nil_ (w : World) : Rw w none 0 0 [] := ⟨⟨rfl, Nat.le_refl _, by simp [maxLen], fun h => absurd h (by omega)⟩, fun i h => absurd h (by simp)⟩
theorem Rw.at_ {w : World} {a : Option Addr} {n c : Nat} {ss : List Sl} {i : Nat} (h : Rw w a n c ss) (hi : i < n) :
    ∃ b off, ∃ hl : i < ss.length, a = some ⟨b, off, none⟩ ∧ b < w.heap.size ∧ w.cell? ⟨b, off + i, none⟩ = some (.slice ss[i].a ss[i].n ss[i].c) ∧ Bs w ss[i].a ss[i].n ss[i].c ss[i].l := by
  obtain ⟨b, off, e, hb, hc⟩ := h.1.2.2.2 (by omega)
  have hl : i < ss.length := by rw [h.1.1]; exact hi
  exact ⟨b, off, hl, e, hb, hc i hl, h.2 i hl⟩
end Go.Proofs.Ytkkomaohcijhnaa
namespace Go.Proofs.Ytkkomaohcijhnaa
open Go.RowKit
section
variable {P : Program}
theorem run_app_nil (w : World) (base : Nat) (t ty e : TypeId) (i : TypeInfo) (ht : P.underlying t = some (.slice e)) (hi : P.info? e = some i)
    (a : Option Addr) (n c cc : Nat) (l : List UInt8) (hown : Own w base e a n c l) : (Builtin.append_ #[t, t] ty #[.slice a n c, .slice none 0 cc]).run P w = .ok (.slice a n c) w := by
  rcases hown.2 with ⟨hv, rfl⟩ | ⟨g, cap, cur, hv, _, _, hnc, _⟩
  · injection hv with h1 h2 h3
    subst h1; subst h3
    simp [Builtin.append_, run_underlying ht, sizeOf, typeInfo, hi, Builtin.lenOf, Builtin.firstCells]
  · injection hv with h1 h2 h3
    subst h1; subst h3
    simp [Builtin.append_, run_underlying ht, sizeOf, typeInfo, hi, Builtin.lenOf, Builtin.firstCells, hnc, storeCells]
theorem run_app (w : World) (base : Nat) (t ty e : TypeId) (i : TypeInfo) (ht : P.underlying t = some (.slice e)) (hi : P.info? e = some i) (hz : i.zero = some (.int .u8 0)) (hsize : i.size = 1) (hby : i.bytes = 1)
    (a : Option Addr) (n c : Nat) (l : List UInt8) (hown : Own w base e a n c l) (A : Option Addr) (m cc : Nat) (r : List UInt8) (hr : Bs w A m cc r) (hlim : n + m ≤ 16777216) (hbase : base ≤ w.heap.size) :
    ∃ a' c' w', (Builtin.append_ #[t, t] ty #[.slice a n c, .slice A m cc]).run P w = .ok (.slice a' (n + m) c') w' ∧ Own w' base e a' (n + m) c' (l ++ r) ∧ w.grownBy w' (Value.ownBlock (.slice a n c)) := by
  obtain ⟨hl, hmc, hcm, hx⟩ := hr
  cases A with
  | none =>
    have hm0 : m = 0 := by
      rcases Nat.eq_zero_or_pos m with h | h
      · exact h
      · obtain ⟨b, off, e, _⟩ := hx h
        cases e
    subst hm0
    have hr0 : r = [] := List.eq_nil_of_length_eq_zero hl
    subst hr0
    exact ⟨a, c, w, run_app_nil w base t ty e i ht hi a n c cc l hown, by simpa using hown, only_refl w _⟩
  | some ad =>
    have hcells : ∀ j u, (cellsOf r)[j]? = some u → w.cell? (ad.add j) = some u := by
      intro j u hj
      obtain ⟨hj', rfl⟩ := cellsOf_get hj
      obtain ⟨b, off, e, hb, hc⟩ := hx (by omega)
      injection e with e
      subst e
      have hp : (⟨b, off, none⟩ : Addr).add j = ⟨b, off + j, none⟩ := by unfold Addr.add; split <;> simp_all
      rw [hp]
      exact hc j hj'
    obtain ⟨v', w', h1, h2, h3, _⟩ := run_append_own (P := P) w base t ty e i (.int .u8 0) 1 1 ht hi hz hsize hby rfl (by decide) (.slice a n c) n (cellsOf l) hown ad m cc (cellsOf r) (by rw [cellsOf_len]; omega) hcells (cellsOf_one r) (by unfold maxLen; omega) (by omega) hbase
    rw [← cellsOf_append] at h2
    obtain ⟨a', c', rfl, ho⟩ := Own.form h2
    exact ⟨a', c', w', h1, ho, h3⟩
theorem wp_app (w : World) {o : Oper} {act : Act} {K : Act → World → Prop} {Q : Exit → Act → World → Prop} (s x : Operand) (t : TypeId)
    (ho : o.op = .call { callee := .builtin .append, args := #[s, x], argTypes := #[t, t] })
    (base : Nat) (e : TypeId) (i : TypeInfo) (ht : P.underlying t = some (.slice e)) (hi : P.info? e = some i) (hz : i.zero = some (.int .u8 0)) (hsize : i.size = 1) (hby : i.bytes = 1)
    (a : Option Addr) (n c : Nat) (l : List UInt8) (hs : act.eval s = .slice a n c) (hown : Own w base e a n c l) (A : Option Addr) (m cc : Nat) (r : List UInt8) (hx : act.eval x = .slice A m cc) (hr : Bs w A m cc r) (hlim : n + m ≤ 16777216) (hbase : base ≤ w.heap.size)
    (h : ∀ a' c' w', Own w' base e a' (n + m) c' (l ++ r) → w.grownBy w' (Value.ownBlock (.slice a n c)) → K (act.put o.dst (.slice a' (n + m) c')) w') : o.wp P act w K Q := by
  obtain ⟨a', c', w', h1, h2, h3⟩ := run_app (P := P) w base t o.type e i ht hi hz hsize hby a n c l hown A m cc r hr hlim hbase
  unfold Oper.wp execOp
  simp only [ho, resolve, invoke, builtin, Sem.run_bind, Sem.run_pure, Result.andThen_ok, List.map_toArray, List.map_cons, List.map_nil, hs, hx, h1]
  exact h a' c' w' h2 h3
theorem wpList_app (w : World) {ops : Array Oper} {rest : List Oper} {o : Oper} {act : Act} {Q : Exit → Act → World → Prop} (hgd : o.guard = none) (s x : Operand) (t : TypeId)
    (ho : o.op = .call { callee := .builtin .append, args := #[s, x], argTypes := #[t, t] })
    (base : Nat) (e : TypeId) (i : TypeInfo) (ht : P.underlying t = some (.slice e)) (hi : P.info? e = some i) (hz : i.zero = some (.int .u8 0)) (hsize : i.size = 1) (hby : i.bytes = 1)
    (a : Option Addr) (n c : Nat) (l : List UInt8) (hs : act.eval s = .slice a n c) (hown : Own w base e a n c l) (A : Option Addr) (m cc : Nat) (r : List UInt8) (hx : act.eval x = .slice A m cc) (hr : Bs w A m cc r) (hlim : n + m ≤ 16777216) (hbase : base ≤ w.heap.size)
    (h : ∀ a' c' w', Own w' base e a' (n + m) c' (l ++ r) → w.grownBy w' (Value.ownBlock (.slice a n c)) → wpList P ops Q rest (act.put o.dst (.slice a' (n + m) c')) w') : wpList P ops Q (o :: rest) act w :=
  wpList_plain hgd fun _ hK => wp_app w s x t ho base e i ht hi hz hsize hby a n c l hs hown A m cc r hx hr hlim hbase fun a' c' w' h2 h3 => hK _ _ (h a' c' w' h2 h3)
end
theorem Own.pos {w : World} {B : Nat} {e : TypeId} {a : Option Addr} {n c : Nat} {l : List UInt8} (h : Own w B e a n c l) (hn : 0 < n) : ∃ g, a = some ⟨g, 0, none⟩ ∧ B ≤ g ∧ g < w.heap.size := by
  rcases h.2 with ⟨_, h0⟩ | ⟨g, cap, cur, hv, hb, hh, _⟩
  · omega
  · injection hv with h1
    subst h1
    exact ⟨g, rfl, hb, (h.base _ rfl).2⟩
theorem app_below {w w' : World} {B base : Nat} {e : TypeId} {a : Option Addr} {n c : Nat} {l : List UInt8} (hown : Own w base e a n c l) (hg : w.grownBy w' (Value.ownBlock (.slice a n c))) (hB : B ≤ base) (hz : B ≤ w.heap.size) : Below B w w' :=
  (Below.refl B w).grown hg hz fun k hk => by
    cases a with
    | none => simp [Value.ownBlock] at hk
    | some x =>
      simp only [Value.ownBlock, Option.some.injEq] at hk
      have := (hown.base x rfl).1
      omega
theorem bs_belowB {w w' : World} {B : Nat} {a : Option Addr} {n c : Nat} {l : List UInt8} (h : Bs w a n c l) (hb : Below B w w') (ha : ∀ x, a = some x → x.block < B) : Bs w' a n c l :=
  ⟨h.1, h.2.1, h.2.2.1, fun hn => by
    obtain ⟨b, off, e, hlt, hc⟩ := h.2.2.2 hn
    exact ⟨b, off, e, Nat.lt_of_lt_of_le hlt hb.size, fun i hi => (hb.cell (p := ⟨b, off + i, none⟩) (show b < B from ha _ e)).trans (hc i hi)⟩⟩
end Go.Proofs.Ytkkomaohcijhnaa
namespace Go.Proofs.Ytkkomaohcijhnaa
open Go.RowKit
def elCs (x : El) : List Value := [.int .i64 x.cls, .int .i64 x.num, .bool x.con, .int .i64 x.st, .int .i64 x.bo, .int .i64 x.en]
def elV (x : El) : Value := .agg #[.int .i64 x.cls, .int .i64 x.num, .bool x.con, .int .i64 x.st, .int .i64 x.bo, .int .i64 x.en]
theorem elCs_len (x : El) : (elCs x).length = 6 := rfl
def cellsE (es : List El) : List Value := es.flatMap elCs
theorem cellsE_snoc (es : List El) (x : El) : cellsE (es ++ [x]) = cellsE es ++ elCs x := by simp [cellsE]
theorem cellsE_at : ∀ (es : List El) (i j : Nat) (h : i < es.length), j < 6 → (cellsE es)[i * 6 + j]? = (elCs es[i])[j]?
  | [], i, j, h, _ => absurd h (by simp)
  | x :: es, 0, j, _, hj => by
    unfold cellsE
    rw [List.flatMap_cons, Nat.zero_mul, Nat.zero_add, List.getElem?_append_left (by rw [elCs_len]; exact hj)]
    rfl
  | x :: es, i + 1, j, h, hj => by
    have ih := cellsE_at es i j (by simpa using h) hj
    unfold cellsE at *
    rw [List.flatMap_cons, List.getElem?_append_right (by rw [elCs_len]; omega), elCs_len]
    rw [show (i + 1) * 6 + j - 6 = i * 6 + j by omega, ih]
    rfl
def Ew (w : World) (a : Option Addr) (n c : Nat) (es : List El) : Prop :=
  es.length = n ∧ n ≤ c ∧ c ≤ maxLen ∧ (0 < n → ∃ b off, a = some ⟨b, off, none⟩ ∧ b < w.heap.size ∧ ∀ i (h : i < es.length) j v, (elCs es[i])[j]? = some v → w.cell? ⟨b, off + i * 6 + j, none⟩ = some v)
theorem Ew.len {w : World} {a : Option Addr} {n c : Nat} {es : List El} (h : Ew w a n c es) : es.length = n := h.1
theorem Ew.keep {w w' : World} {a : Option Addr} {n c : Nat} {es : List El} (h : Ew w a n c es) (hs : w.heap.size ≤ w'.heap.size) (hk : ∀ p : Addr, p.block < w.heap.size → w'.cell? p = w.cell? p) : Ew w' a n c es :=
  ⟨h.1, h.2.1, h.2.2.1, fun hn => by
    obtain ⟨b, off, e, hb, hc⟩ := h.2.2.2 hn
    exact ⟨b, off, e, by omega, fun i hi j v hj => (hk _ hb).trans (hc i hi j v hj)⟩⟩
theorem Ew.below {w w' : World} {a : Option Addr} {n c : Nat} {es : List El} (h : Ew w a n c es) (hb : Below w.heap.size w w') : Ew w' a n c es := h.keep hb.size fun _ hp => hb.cell hp
theorem Ew.drewN {w : World} {a : Option Addr} {n c : Nat} {es : List El} (h : Ew w a n c es) (k : Nat) : Ew (w.drewN k) a n c es := h
theorem Ew.drew {w : World} {a : Option Addr} {n c : Nat} {es : List El} (h : Ew w a n c es) : Ew w.drew a n c es := h
theorem Ew.alloc {w : World} {a : Option Addr} {n c : Nat} {es : List El} (h : Ew w a n c es) (o : Obj) : Ew (w.alloc o) a n c es := h.keep (by simp) fun p hp => World.cell?_alloc_lt w o p hp
theorem Ew.nil_ (w : World) : Ew w none 0 0 [] := ⟨rfl, Nat.le_refl _, by simp [maxLen], fun h => absurd h (by omega)⟩
theorem Ew.at_ {w : World} {a : Option Addr} {n c : Nat} {es : List El} {i : Nat} (h : Ew w a n c es) (hi : i < n) :
    ∃ b off, ∃ hl : i < es.length, a = some ⟨b, off, none⟩ ∧ b < w.heap.size ∧ w.cell? ⟨b, off + i * 6, none⟩ = some (.int .i64 es[i].cls) ∧ w.cell? ⟨b, off + i * 6 + 1, none⟩ = some (.int .i64 es[i].num) ∧ w.cell? ⟨b, off + i * 6 + 2, none⟩ = some (.bool es[i].con) ∧
      w.cell? ⟨b, off + i * 6 + 3, none⟩ = some (.int .i64 es[i].st) ∧ w.cell? ⟨b, off + i * 6 + 4, none⟩ = some (.int .i64 es[i].bo) ∧ w.cell? ⟨b, off + i * 6 + 5, none⟩ = some (.int .i64 es[i].en) := by
  obtain ⟨b, off, e, hb, hc⟩ := h.2.2.2 (by omega)
  have hl : i < es.length := by rw [h.1]; exact hi
  exact ⟨b, off, hl, e, hb, hc i hl 0 _ rfl, hc i hl 1 _ rfl, hc i hl 2 _ rfl, hc i hl 3 _ rfl, hc i hl 4 _ rfl, hc i hl 5 _ rfl⟩
def OwnE (w : World) (B : Nat) (e : TypeId) (a : Option Addr) (n c : Nat) (es : List El) : Prop := es.length = n ∧ w.ownsRow B e 6 (.slice a n c) n (cellsE es)
theorem OwnE.nil_ (w : World) (B : Nat) (e : TypeId) : OwnE w B e none 0 0 [] := ⟨rfl, World.ownsRow_nil _ _ _ _⟩
theorem OwnE.base {w : World} {B : Nat} {e : TypeId} {a : Option Addr} {n c : Nat} {es : List El} (h : OwnE w B e a n c es) : ∀ x, a = some x → B ≤ x.block ∧ x.block < w.heap.size := by
  intro x hx
  subst hx
  have hlt := h.2.lt
  rcases h.2.2 with ⟨hv, _⟩ | ⟨g, cap, cur, hv, hB, _⟩
  · cases hv
  · injection hv with e1 e2 e3
    injection e1 with e1
    subst e1
    exact hlt g rfl
theorem OwnE.keep {w w' : World} {B : Nat} {e : TypeId} {a : Option Addr} {n c : Nat} {es : List El} (h : OwnE w B e a n c es) (hk : ∀ x, a = some x → w'.heap[x.block]? = w.heap[x.block]?) : OwnE w' B e a n c es := by
  obtain ⟨hl, h1, h2⟩ := h
  refine ⟨hl, h1, ?_⟩
  rcases h2 with h2 | ⟨g, cap, cur, hv, hB, hh, r⟩
  · exact .inl h2
  · refine .inr ⟨g, cap, cur, hv, hB, ?_, r⟩
    injection hv with e1 e2 e3
    rw [hk _ e1]
    exact hh
theorem OwnE.below {w w' : World} {B : Nat} {e : TypeId} {a : Option Addr} {n c : Nat} {es : List El} (h : OwnE w B e a n c es) (hb : Below w.heap.size w w') : OwnE w' B e a n c es :=
  h.keep fun x hx => hb.block _ (h.base x hx).2
theorem OwnE.ew {w : World} {B : Nat} {e : TypeId} {a : Option Addr} {n c : Nat} {es : List El} (h : OwnE w B e a n c es) : Ew w a n c es := by
  obtain ⟨hl, h1, h2⟩ := h
  rcases h2 with ⟨hv, h0⟩ | ⟨g, cap, cur, hv, hB, hh, hnc, hm, hs, ht⟩
  · injection hv with e1 e2 e3
    subst e1; subst e2; subst e3
    have : es = [] := List.eq_nil_of_length_eq_zero hl
    subst this
    exact Ew.nil_ _
  · injection hv with e1 e2 e3
    subst e1; subst e3
    have hg : g < w.heap.size := by
      rcases Nat.lt_or_ge g w.heap.size with hg | hg
      · exact hg
      · rw [Array.getElem?_eq_none hg] at hh; cases hh
    refine ⟨hl, hnc, hm, fun hpos => ⟨g, 0, rfl, hg, fun i hi j v hj => ?_⟩⟩
    have hj6 : j < 6 := by
      rcases Nat.lt_or_ge j 6 with h | h
      · exact h
      · rw [List.getElem?_eq_none (by rw [elCs_len]; exact h)] at hj; cases hj
    have hc := cellsE_at es i j hi hj6
    rw [← ht, List.getElem?_take, if_pos (by omega), hj] at hc
    rw [Nat.zero_add]
    simp only [World.cell?, hh]
    simpa using hc
theorem row_belowE {w w' : World} {B n c : Nat} {a : Option Addr} (hg : w.grownBy w' (Value.ownBlock (.slice a n c))) (ha : ∀ x, a = some x → B ≤ x.block) (hz : B ≤ w.heap.size) : Below B w w' :=
  (Below.refl B w).grown hg hz fun k hk => by
    cases a with
    | none => simp [Value.ownBlock] at hk
    | some x =>
      simp only [Value.ownBlock, Option.some.injEq] at hk
      have := ha x rfl
      omega
theorem info_partsE {o : Option TypeInfo} {z : Value} {a b : Nat} (h : o.map (fun i => (i.zero, i.size, i.bytes)) = some (some z, a, b)) : ∃ i, o = some i ∧ i.zero = some z ∧ i.size = a ∧ i.bytes = b := by
  cases o with
  | none => cases h
  | some i =>
    simp only [Option.map_some, Option.some.injEq, Prod.mk.injEq] at h
    exact ⟨i, rfl, h.1, h.2.1, h.2.2⟩
def zeroE : Value := .agg #[.int .i64 0, .int .i64 0, .bool false, .int .i64 0, .int .i64 0, .int .i64 0]
theorem info_el : (Try.prog.info? 25).map (fun i => (i.zero, i.size, i.bytes)) = some (some zeroE, 6, 48) := by kernel_rfl
end Go.Proofs.Ytkkomaohcijhnaa
namespace Go.Proofs.Ytkkomaohcijhnaa
open Go.RowKit
theorem info_u8 : (Try.prog.info? 5).map (fun i => (i.zero, i.size, i.bytes)) = some (some (.int .u8 0), 1, 1) := by kernel_rfl
end Go.Proofs.Ytkkomaohcijhnaa
namespace Go.Proofs.Ytkkomaohcijhnaa
open Go.RowKit
set_option maxRecDepth 100000
set_option maxHeartbeats 400000 in
theorem clone_any {w : World} {a : Option Addr} {n c : Nat} {l : List UInt8} (h : Bs w a n c l) (hn : n ≤ 1000000) :
    Calls Try.prog 92 #[.slice a n c] w fun e w' => ∃ a' c', e = .returned (.slice a' n c') ∧ Own w' w.heap.size 5 a' n c' l ∧ Below w.heap.size w w' := by
  obtain ⟨i0, hi, hz0, hz1, hz2⟩ := info_parts info_u8
  obtain ⟨hl, hnc, hcm, hx⟩ := h
  have q22 : ∀ (w : World) (a : Option Addr) (n c n' c' : Nat), (binOp .eql 22 (.slice a n c) (.slice none n' c')).run Try.prog w = .ok (.bool a.isNone) w := fun w a n c n' c' => Lib.run_eql_slice_nil w _ _ a n c n' c' Try.underlying22
  cases a with
  | none =>
    have hn0 : n = 0 := by
      rcases Nat.eq_zero_or_pos n with h | h
      · exact h
      · obtain ⟨b, off, e, _⟩ := hx h
        cases e
    clear hx
    subst hn0
    have hl0 : l = [] := List.eq_nil_of_length_eq_zero hl
    subst hl0
    go_enter Try.func92, Try.ntmps92
    go_wp2
    go_ret
    exact ⟨none, 0, rfl, World.ownsRow_nil _ _ _ _, Below.refl _ _⟩
  | some x =>
    have HL := Lib.hid hl
    have HX := Lib.hid hx
    clear hl hx
    go_enter Try.func92, Try.ntmps92
    go_wp2_with (at_builtin; refine wpList_append_own _ rfl _ _ 22 rfl w.heap.size 5 i0 (.int .u8 0) 1 1 Try.underlying22 hi hz0 hz1 hz2 rfl (by decide) _ _ _ rfl (World.ownsRow_made w #[] 0 (Nat.le_refl _) (Nat.zero_le _) rfl) x n c (cellsOf l) rfl ?qc1 ?qc2 (cellsOf_one l) ?qc4 ?qc5 ?qc6 ?_)
    case qc1 => rw [cellsOf_len, HL.out]; simp
    case qc2 =>
      intro j u hj
      obtain ⟨hj', rfl⟩ := cellsOf_get hj
      obtain ⟨b, off, e, hb, hc⟩ := HX.out (by have := HL.out; omega)
      injection e with e
      subst e
      have hp : (⟨b, off, none⟩ : Addr).add j = ⟨b, off + j, none⟩ := by unfold Addr.add; split <;> simp_all
      rw [hp, World.cell?_alloc_lt w _ ⟨b, off + j, none⟩ hb]
      exact hc j hj'
    case qc4 => unfold maxLen; omega
    case qc5 => omega
    case qc6 => simp
    intro v' w1 hown hgrow hnil
    go_wp2
    go_ret
    obtain ⟨a', c', rfl, ho⟩ := Own.form (l := l) (n := n) (by simpa using hown)
    exact ⟨a', c', rfl, ho, ((Below.refl _ w).alloc (Nat.le_refl _) _).grown hgrow (by simp) (by intro k hk; simp [Value.ownBlock] at hk; omega)⟩
end Go.Proofs.Ytkkomaohcijhnaa
namespace Go.Proofs.Ytkkomaohcijhnaa
open Go.RowKit
set_option maxRecDepth 100000
def Cur (w : World) (t : TypeId) (g : Nat) (a : Option Addr) (l : List UInt8) (pos : Nat) : Prop :=
  ∃ c, Blk w g t #[.slice a l.length c, .int .i64 pos] ∧ Bs w a l.length c l ∧ (∀ x, a = some x → x.block ≠ g) ∧ pos ≤ l.length ∧ l.length ≤ 1000000
theorem Cur.below {w w' : World} {t : TypeId} {g : Nat} {a : Option Addr} {l : List UInt8} {pos : Nat} (h : Cur w t g a l pos) (hb : Below w.heap.size w w') : Cur w' t g a l pos := by
  obtain ⟨c, h1, h2, h3, h4⟩ := h
  exact ⟨c, h1.below hb h1.lt, h2.below hb, h3, h4⟩
theorem Cur.drewN {w : World} {t : TypeId} {g : Nat} {a : Option Addr} {l : List UInt8} {pos : Nat} (h : Cur w t g a l pos) (k : Nat) : Cur (w.drewN k) t g a l pos := h
theorem Cur.lt {w : World} {t : TypeId} {g : Nat} {a : Option Addr} {l : List UInt8} {pos : Nat} (h : Cur w t g a l pos) : g < w.heap.size := by
  obtain ⟨c, h1, _⟩ := h
  exact h1.lt
theorem Cur.only {w w' : World} {t : TypeId} {g k : Nat} {a : Option Addr} {l : List UInt8} {pos : Nat} (h : Cur w t g a l pos) (hk : w.grownBy w' (some k)) (h1 : g ≠ k) (h2 : ∀ x, a = some x → x.block ≠ k) : Cur w' t g a l pos := by
  obtain ⟨c, h3, h4, h5⟩ := h
  exact ⟨c, h3.only hk h1, h4.only hk h2, h5⟩
theorem orEmpty_any (g : Nat) (w : World) : Calls Try.prog 93 #[.pointer (some ⟨g, 0, none⟩)] w fun e w' => e = .returned (.pointer (some ⟨g, 0, none⟩)) ∧ w = w' := by
  go_enter Try.func93, Try.ntmps93
  go_wp2
  go_ret
  exact ⟨rfl, rfl⟩
theorem pos_any {w : World} {g : Nat} {a : Option Addr} {l : List UInt8} {pos : Nat} (h : Cur w 126 g a l pos) :
    Calls Try.prog 83 #[.pointer (some ⟨g, 0, none⟩)] w fun e w' => e = .returned (.int .i64 pos) ∧ w = w' := by
  obtain ⟨c, hb, hs, hne, hp, hz⟩ := h
  have h0 := hb.cell 0
  have h1 := hb.cell 1
  simp only [List.getElem?_toArray, List.getElem?_cons_zero, List.getElem?_cons_succ] at h0 h1
  go_enter Try.func83, Try.ntmps83
  go_wp2_with (go_at_call 93; refine (orEmpty_any _ _).mono ?_; rintro e w' ⟨rfl, rfl⟩)
  go_ret
  exact ⟨rfl, rfl⟩
theorem left_any {w : World} {g : Nat} {a : Option Addr} {l : List UInt8} {pos : Nat} (h : Cur w 126 g a l pos) :
    Calls Try.prog 94 #[.pointer (some ⟨g, 0, none⟩)] w fun e w' => e = .returned (.int .i64 (l.length - pos : Nat)) ∧ ∃ k, w' = w.drewN k := by
  obtain ⟨c, hb, hs, hne, hp, hz⟩ := h
  have h0 := hb.cell 0
  have h1 := hb.cell 1
  simp only [List.getElem?_toArray, List.getElem?_cons_zero, List.getElem?_cons_succ] at h0 h1
  go_enter Try.func94, Try.ntmps94
  go_wp2_with (go_at_call 93; refine (orEmpty_any _ _).mono ?_; rintro e w' ⟨rfl, rfl⟩)
  go_quiet (fail)
  go_wp2
  go_ret
  exact ⟨ret_int (by omega), _, rfl⟩
theorem short_any {w : World} {g : Nat} {a : Option Addr} {l : List UInt8} {pos : Nat} (h : Cur w 126 g a l pos) :
    Calls Try.prog 95 #[.pointer (some ⟨g, 0, none⟩)] w fun e w' => e = .returned (.agg #[.int .i64 1, .int .i64 l.length]) ∧ Below w.heap.size w w' := by
  obtain ⟨c, hb, hs, hne, hp, hz⟩ := h
  have hlt := hb.lt
  have h0 := hb.cell 0
  have h1 := hb.cell 1
  simp only [List.getElem?_toArray, List.getElem?_cons_zero, List.getElem?_cons_succ] at h0 h1
  go_enter Try.func95, Try.ntmps95
  go_wp2
  exact bodyPost_ret (v := .agg #[.int .i64 1, .int .i64 l.length]) (by simp [results, Try.results95, go_sem]) rfl ⟨rfl, (Below.refl _ _).alloc (Nat.le_refl _) _⟩
end Go.Proofs.Ytkkomaohcijhnaa
namespace Go.Proofs.Ytkkomaohcijhnaa
open Go.RowKit
set_option maxRecDepth 100000
theorem new_any {w : World} {a : Option Addr} {n c : Nat} {l : List UInt8} (h : Bs w a n c l) (hn : n ≤ 1000000) :
    Calls Try.prog 81 #[.slice a n c] w fun e w' => ∃ g a', e = .returned (.pointer (some ⟨g, 0, none⟩)) ∧ Cur w' 126 g a' l 0 ∧ w.heap.size ≤ g ∧ (∀ x, a' = some x → w.heap.size ≤ x.block ∧ x.block < g) ∧ Below w.heap.size w w' := by
  have HN := Lib.hid h.len
  go_enter Try.func81, Try.ntmps81
  go_wp2_with (go_at_call 92; go_must (refine (clone_any h hn).mono ?_); rintro e w' ⟨a', c', rfl, ho, hb⟩)
  go_ret
  have hl := HN.out
  subst hl
  refine ⟨_, a', rfl, ⟨c', Blk.new _ _ _, ho.bs.alloc _, fun x hx => ?_, Nat.zero_le _, hn⟩, hb.size, fun x hx => ho.base x hx, hb.alloc hb.size _⟩
  have := (ho.base x hx).2
  omega
theorem byte_more {w : World} {g : Nat} {a : Option Addr} {l : List UInt8} {pos : Nat} (h : Cur w 126 g a l pos) (hlt : pos < l.length) :
    Calls Try.prog 82 #[.pointer (some ⟨g, 0, none⟩)] w fun e w' => e = .returned (.tuple #[.int .u8 l[pos].toNat, .agg #[.int .i64 0, .int .i64 0]]) ∧ Cur w' 126 g a l (pos + 1) ∧ w.grownBy w' (some g) := by
  have hl := left_any (h.below ((Below.refl _ w).alloc (Nat.le_refl _) (Obj.cells #[Value.int IntKind.i64 0, Value.int IntKind.i64 0] 28)))
  obtain ⟨c, hb, hs, hne, hp, hz⟩ := h
  obtain ⟨b, off, hl1, rfl, hbl, hc⟩ := hs.at_ hlt
  have hlc := hs.2.1
  have hcm := hs.2.2.1
  have hg := hb.lt
  unfold maxLen at hcm
  have h0 := hb.cell 0
  have h1 := hb.cell 1
  have hf1 := hb.frozen 1
  simp only [List.getElem?_toArray, List.getElem?_cons_zero, List.getElem?_cons_succ] at h0 h1
  have hp0 : (0 : Int) ≤ pos := by omega
  have hp1 : (pos : Int) < l.length := by omega
  generalize hx : l[pos] = x at hc ⊢
  have HX := Lib.hid hx
  clear hx
  have HL := Lib.hid hl
  clear hl
  go_enter Try.func82, Try.ntmps82
  go_wp2_with (first | (go_at_call 93; refine (orEmpty_any _ _).mono ?_; rintro e w' ⟨rfl, rfl⟩) | (go_at_call 94; go_must (refine HL.out.mono ?_); rintro e w' ⟨rfl, k, rfl⟩))
  go_quiet (fail)
  go_wp2
  have hk : w.grownBy (((((w.alloc (Obj.cells #[Value.int IntKind.i64 0, Value.int IntKind.i64 0] 28)).drewN (k + nq)).setCell ⟨g, 1, none⟩ (Value.int IntKind.i64 (pos + 1))).setCell ⟨w.heap.size, 0, none⟩ (Value.int IntKind.i64 0)).setCell ⟨w.heap.size, 1, none⟩ (Value.int IntKind.i64 0)) (some g) :=
    only_setCell (only_setCell (only_setCell (only_drewN (only_alloc (only_refl _ _) _) _) (.inl rfl) _) (.inr (Nat.le_refl _)) _) (.inr (Nat.le_refl _)) _
  exact bodyPost_ret (v := .tuple #[.int .u8 x.toNat, .agg #[.int .i64 0, .int .i64 0]]) (by simp [results, Try.results82, go_sem]) rfl ⟨rfl, ⟨c, ((((hb.alloc _).drewN _).set_ 1 _).far (by simp; omega) _).far (by simp; omega) _, hs.only hk hne, hne, hlt, hz⟩, hk⟩
theorem byte_end {w : World} {g : Nat} {a : Option Addr} {l : List UInt8} {pos : Nat} (h : Cur w 126 g a l pos) (hlt : ¬ pos < l.length) :
    Calls Try.prog 82 #[.pointer (some ⟨g, 0, none⟩)] w fun e w' => e = .returned (.tuple #[.int .u8 0, .agg #[.int .i64 1, .int .i64 l.length]]) ∧ Below w.heap.size w w' := by
  have hA : Below w.heap.size w (w.alloc (Obj.cells #[Value.int IntKind.i64 0, Value.int IntKind.i64 0] 28)) := (Below.refl _ w).alloc (Nat.le_refl _) _
  have HL := Lib.hid (left_any (h.below hA))
  have HS := Lib.hid (fun k => short_any ((h.below hA).drewN k))
  have hg := h.lt
  have hz : l.length - pos = 0 := by omega
  rw [hz] at HL
  clear hz h
  go_enter Try.func82, Try.ntmps82
  go_wp2_with (first | (go_at_call 93; refine (orEmpty_any _ _).mono ?_; rintro e w' ⟨rfl, rfl⟩) | (go_at_call 94; go_must (refine HL.out.mono ?_); rintro e w' ⟨rfl, k, rfl⟩) | (go_at_call 95; go_must (refine (HS.out _).mono ?_); rintro e w1 ⟨rfl, hb1⟩; have hcell := (bcell hb1).1; have hfr := (bcell hb1).2))
  exact bodyPost_ret (v := .tuple #[.int .u8 0, .agg #[.int .i64 1, .int .i64 l.length]]) (by simp [results, Try.results82, go_sem, hcell]) rfl ⟨rfl, (((below_drewN hA k).trans (hb1.mono (by simp))).setCell (Nat.le_refl _) _).setCell (Nat.le_refl _) _⟩
end Go.Proofs.Ytkkomaohcijhnaa
namespace Go.Proofs.Ytkkomaohcijhnaa
theorem u64_wrap {m : Nat} (h : m < 18446744073709551616) : IntKind.u64.wrap (m : Int) = m := by
  rw [IntKind.wrap_u64]
  omega
theorem mul8 {m : Nat} {x : UInt8} (h : m < 72057594037927936) : IntKind.u64.wrap (IntKind.u64.wrap ((m : Int) * 256) + IntKind.u64.wrap (x.toNat : Int)) = ((m * 256 + x.toNat : Nat) : Int) := by
  have hx := x.toNat_lt
  rw [IntKind.wrap_u64, IntKind.wrap_u64, IntKind.wrap_u64]
  omega
end Go.Proofs.Ytkkomaohcijhnaa
namespace Go.Proofs
open Go.Shelf
open Go.RowKit in
open Go.RowKit in
open Go.RowKit in
open Go.RowKit in
open Go.RowKit in
def Try.lays156_ren : Go.Shelf.Ren := ⟨fun | 156 => 35 | 165 => 49 | 166 => 50 | 169 => 51 | 240 => 65 | 241 => 66 | 276 => 85 | 277 => 86 | n => n, fun | 31 => 59 | 9 => 9 | 3 => 3 | 4 => 4 | 0 => 0 | 20 => 20 | 72 => 74 | 76 => 78 | 70 => 72 | 37 => 22 | 75 => 77 | 127 => 93 | 164 => 115 | 5 => 5 | 80 => 80 | n => n, fun | n => n⟩
theorem Try.lays156 : Go.Proofs.Lays.n156 Try.prog Try.lays156_ren := {
  mixed := by kernel_rfl
  f156 := Try.func35.trans (congrArg some (by kernel_rfl))
  f165 := Try.func49.trans (congrArg some (by kernel_rfl))
  f166 := Try.func50.trans (congrArg some (by kernel_rfl))
  f169 := Try.func51.trans (congrArg some (by kernel_rfl))
  f240 := Try.func65.trans (congrArg some (by kernel_rfl))
  f241 := Try.func66.trans (congrArg some (by kernel_rfl))
  f276 := Try.func85.trans (congrArg some (by kernel_rfl))
  f277 := Try.func86.trans (congrArg some (by kernel_rfl))
  t0 := Try.underlying0
  a0 := Try.isAgg0
  z0 := Try.sizeOf0
  v0 := Try.zeroValue0
  t3 := Try.underlying3
  a3 := Try.isAgg3
  z3 := Try.sizeOf3
  v3 := Try.zeroValue3
  t4 := Try.underlying4
  a4 := Try.isAgg4
  z4 := Try.sizeOf4
  v4 := Try.zeroValue4
  t9 := Try.underlying9
  a9 := Try.isAgg9
  z9 := Try.sizeOf9
  v9 := Try.zeroValue9
  t20 := Try.underlying20
  a20 := Try.isAgg20
  z20 := Try.sizeOf20
  v20 := Try.zeroValue20
  t31 := Try.underlying59
  a31 := Try.isAgg59
  z31 := Try.sizeOf59
  v31 := Try.zeroValue59
  t37 := Try.underlying22
  a37 := Try.isAgg22
  z37 := Try.sizeOf22
  v37 := Try.zeroValue22
  t70 := Try.underlying72
  a70 := Try.isAgg72
  z70 := Try.sizeOf72
  v70 := Try.zeroValue72
  t72 := Try.underlying74
  a72 := Try.isAgg74
  z72 := Try.sizeOf74
  v72 := Try.zeroValue74
  t75 := Try.underlying77
  a75 := Try.isAgg77
  z75 := Try.sizeOf77
  v75 := Try.zeroValue77
  t76 := Try.underlying78
  a76 := Try.isAgg78
  z76 := Try.sizeOf78
  v76 := Try.zeroValue78
  t127 := Try.underlying93
  a127 := Try.isAgg93
  z127 := Try.sizeOf93
  v127 := Try.zeroValue93
  t164 := Try.underlying115
  a164 := Try.isAgg115
  z164 := Try.sizeOf115
  v164 := Try.zeroValue115 }
theorem Try.Builder_Extra_156 : Builder.Extra Try.prog Try.lays156_ren := {
  sizeBuilder := by kernel_rfl
  liesBuilder := by kernel_rfl
  t5 := Try.underlying5
  a5 := Try.isAgg5
  z5 := Try.sizeOf5
  v5 := Try.zeroValue5
  infoByte := by kernel_rfl
  cellsByte := by kernel_rfl
  sizeByte := by kernel_rfl
  neB5 := by decide }
open Go.RowKit in
open Go.RowKit in
theorem Try.strings_Join (bk o c : Nat) (xs : List ByteArray) (sep : ByteArray) (w : World) (hcells : ∀ (j : Nat) x, xs[j]? = some x → w.cell? ⟨bk, o + j, none⟩ = some (.string x)) (hbk : bk < w.heap.size) (hN : xs.length ≤ 140737488355328) (hcap : xs.length ≤ c) (hlen : (Lib.join (xs.map (·.data.toList)) sep.data.toList).length ≤ 140737488355328) :
    Calls Try.prog 35 #[.slice (some ⟨bk, o, none⟩) xs.length c, .string sep] w fun e w' => e = .returned (.string ⟨(Lib.join (xs.map (·.data.toList)) sep.data.toList).toArray⟩) ∧ Below w.heap.size w w' := Any.strings_Join Try.lays156 Try.Builder_Extra_156 bk o c xs sep w hcells hbk hN hcap hlen
def Try.lays129_ren : Go.Shelf.Ren := ⟨fun | 129 => 80 | n => n, fun | 53 => 95 | 3 => 3 | 4 => 4 | 46 => 71 | 5 => 5 | 9 => 9 | n => n, fun | n => n⟩
theorem Try.lays129 : Go.Proofs.Lays.n129 Try.prog Try.lays129_ren := {
  mixed := by kernel_rfl
  f129 := Try.func80.trans (congrArg some (by kernel_rfl))
  t3 := Try.underlying3
  a3 := Try.isAgg3
  z3 := Try.sizeOf3
  v3 := Try.zeroValue3
  t4 := Try.underlying4
  a4 := Try.isAgg4
  z4 := Try.sizeOf4
  v4 := Try.zeroValue4
  t5 := Try.underlying5
  a5 := Try.isAgg5
  z5 := Try.sizeOf5
  v5 := Try.zeroValue5
  t9 := Try.underlying9
  a9 := Try.isAgg9
  z9 := Try.sizeOf9
  v9 := Try.zeroValue9
  t46 := Try.underlying71
  a46 := Try.isAgg71
  z46 := Try.sizeOf71
  v46 := Try.zeroValue71
  t53 := Try.underlying95
  a53 := Try.isAgg95
  z53 := Try.sizeOf95
  v53 := Try.zeroValue95 }
theorem Try.bits_Len64 (x : Int) (w : World) (h0 : 0 ≤ x) (h1 : x ≤ 18446744073709551615) :
    Calls Try.prog 80 #[.int .u64 x] w fun e w' => e = .returned (.int .i64 (Lib.bitLen x.toNat)) ∧ w' = w := Any.bits_Len64 Try.lays129 x w h0 h1
def Try.sortL_ren : Go.Shelf.Ren := ⟨fun | 6 => 43 | 15 => 59 | 14 => 58 | 28 => 79 | 29 => 80 | 20 => 71 | 21 => 72 | 22 => 73 | 23 => 74 | 24 => 75 | 25 => 76 | 26 => 77 | 27 => 78 | 46 => 87 | 47 => 88 | 48 => 89 | 49 => 90 | 50 => 91 | 57 => 96 | n => n, fun | 22 => 41 | 24 => 22 | 25 => 53 | 3 => 3 | 39 => 71 | 0 => 0 | 53 => 106 | 55 => 95 | 4 => 4 | 46 => 99 | 45 => 98 | 50 => 103 | 5 => 5 | 9 => 9 | 66 => 118 | 70 => 122 | 76 => 129 | 77 => 130 | n => n, fun | n => n⟩
theorem Try.sortL : Go.Proofs.SlLaysF.n6 Try.prog Try.sortL_ren := {
  mixed := by kernel_rfl
  f6 := ⟨Try.f43.name, by decide, Try.func43.trans (congrArg some (by kernel_rfl))⟩
  f14 := ⟨Try.f58.name, by decide, Try.func58.trans (congrArg some (by kernel_rfl))⟩
  f15 := Try.func59.trans (congrArg some (by kernel_rfl))
  f20 := ⟨Try.f71.name, by decide, Try.func71.trans (congrArg some (by kernel_rfl))⟩
  f21 := ⟨Try.f72.name, by decide, Try.func72.trans (congrArg some (by kernel_rfl))⟩
  f22 := ⟨Try.f73.name, by decide, Try.func73.trans (congrArg some (by kernel_rfl))⟩
  f23 := ⟨Try.f74.name, by decide, Try.func74.trans (congrArg some (by kernel_rfl))⟩
  f24 := ⟨Try.f75.name, by decide, Try.func75.trans (congrArg some (by kernel_rfl))⟩
  f25 := ⟨Try.f76.name, by decide, Try.func76.trans (congrArg some (by kernel_rfl))⟩
  f26 := ⟨Try.f77.name, by decide, Try.func77.trans (congrArg some (by kernel_rfl))⟩
  f27 := ⟨Try.f78.name, by decide, Try.func78.trans (congrArg some (by kernel_rfl))⟩
  f28 := Try.func79.trans (congrArg some (by kernel_rfl))
  f29 := Try.func80.trans (congrArg some (by kernel_rfl))
  f46 := ⟨Try.f87.name, by decide, Try.func87.trans (congrArg some (by kernel_rfl))⟩
  f47 := Try.func88.trans (congrArg some (by kernel_rfl))
  f48 := Try.func89.trans (congrArg some (by kernel_rfl))
  f49 := ⟨Try.f90.name, by decide, Try.func90.trans (congrArg some (by kernel_rfl))⟩
  f50 := ⟨Try.f91.name, by decide, Try.func91.trans (congrArg some (by kernel_rfl))⟩
  f57 := ⟨Try.f96.name, by decide, Try.func96.trans (congrArg some (by kernel_rfl))⟩
  t0 := Try.underlying0
  a0 := Try.isAgg0
  z0 := Try.sizeOf0
  v0 := Try.zeroValue0
  t3 := Try.underlying3
  a3 := Try.isAgg3
  z3 := Try.sizeOf3
  v3 := Try.zeroValue3
  t4 := Try.underlying4
  a4 := Try.isAgg4
  z4 := Try.sizeOf4
  v4 := Try.zeroValue4
  t5 := Try.underlying5
  a5 := Try.isAgg5
  z5 := Try.sizeOf5
  v5 := Try.zeroValue5
  t9 := Try.underlying9
  a9 := Try.isAgg9
  z9 := Try.sizeOf9
  v9 := Try.zeroValue9
  t22 := Try.underlying41
  a22 := Try.isAgg41
  z22 := Try.sizeOf41
  v22 := Try.zeroValue41
  a24 := Try.isAgg22
  z24 := Try.sizeOf22
  t25 := Try.underlying53
  a25 := Try.isAgg53
  z25 := Try.sizeOf53
  v25 := Try.zeroValue53
  t39 := Try.underlying71
  a39 := Try.isAgg71
  z39 := Try.sizeOf71
  v39 := Try.zeroValue71
  t45 := Try.underlying98
  a45 := Try.isAgg98
  z45 := Try.sizeOf98
  v45 := Try.zeroValue98
  t46 := Try.underlying99
  a46 := Try.isAgg99
  z46 := Try.sizeOf99
  v46 := Try.zeroValue99
  t50 := Try.underlying103
  a50 := Try.isAgg103
  z50 := Try.sizeOf103
  v50 := Try.zeroValue103
  t53 := Try.underlying106
  a53 := Try.isAgg106
  z53 := Try.sizeOf106
  v53 := Try.zeroValue106
  t55 := Try.underlying95
  a55 := Try.isAgg95
  z55 := Try.sizeOf95
  v55 := Try.zeroValue95
  t66 := Try.underlying118
  a66 := Try.isAgg118
  z66 := Try.sizeOf118
  v66 := Try.zeroValue118
  t70 := Try.underlying122
  a70 := Try.isAgg122
  z70 := Try.sizeOf122
  v70 := Try.zeroValue122
  t76 := Try.underlying129
  a76 := Try.isAgg129
  z76 := Try.sizeOf129
  v76 := Try.zeroValue129
  t77 := Try.underlying130
  a77 := Try.isAgg130
  z77 := Try.sizeOf130
  v77 := Try.zeroValue130 }
open Go.RowKit Go.Lib Go.Sort in
theorem Try.slices_SortFunc {α : Type} [Inhabited α] (enc : α → Value) (h1 : OneCell enc) (cf : α → α → Int) (hO : SWO (ltOf cf)) (g : Nat) (cb : Array Value) (blk off cap : Nat) (d : Array α) (w : World) (eg : ∀ args w, (callFunc g args).run Try.prog w = .ok (.enter g args) w) (hcmp : CmpLays1 Try.prog g cb enc cf blk off d.size w) (hH : Holds enc w blk off d) (hblk : blk < w.heap.size) (hsz : d.size < 4611686018427387904) :
    Calls Try.prog 43 #[.slice (some ⟨blk, off, none⟩) d.size cap, .func (.func g) #[] cb] w fun e w' => e = .returned (.tuple #[]) ∧ ∃ d' n os, PermIn 0 d.size d d' ∧ SortedIn (ltOf cf) 0 d.size d' ∧ w' = sortWorld enc w blk off n d' os := Any.slices_SortFunc Try.sortL enc h1 cf hO g cb blk off cap d w eg hcmp hH hblk hsz
theorem Try.slices_SortFunc_none (p : Option Addr) (cap : Nat) (fv : Value) (w : World) : Calls Try.prog 43 #[.slice p 0 cap, fv] w fun e w' => e = .returned (.tuple #[]) ∧ w' = w := AnyF.slices_SortFunc_none (P := Try.prog) (ρ := Try.sortL_ren) { Try.sortL with } p cap fv w
end Go.Proofs
namespace Go.Proofs.Ytkkomaohcijhnaa
open Go.RowKit
set_option maxRecDepth 100000
set_option maxHeartbeats 1000000 in
theorem minimal_any {n : Nat} (hn : Hid (n < 18446744073709551616)) (w : World) :
    Calls Try.prog 67 #[.int .u64 n] w fun e w' => ∃ a c, e = .returned (.slice a (digits n).length c) ∧ Own w' w.heap.size 5 a (digits n).length c (digits n) ∧ Below w.heap.size w w' := by
  obtain ⟨i0, hi, hz0, hz1, hz2⟩ := info_parts info_u8
  have HL := Lib.hid (fun w => (Try.bits_Len64 n w (by omega) (by have := hn.out; omega)).mono (R' := fun e w' => e = .returned (.int .i64 (Lib.bitLen (n : Int).toNat)) ∧ w = w') fun _ _ h => ⟨h.1, h.2.symm⟩)
  obtain ⟨hd1, hd8⟩ := ndig_bd hn.out
  obtain ⟨B, hB⟩ : ∃ B, Hid (Lib.bitLen n = B) := ⟨_, rfl⟩
  obtain ⟨L, hL⟩ : ∃ L, Hid (ndig n = L) := ⟨_, rfl⟩
  have hLB : Hid (L = max 1 ((B + 7) / 8)) := by have := hL.out; have := hB.out; unfold ndig at *; subst this; exact this.symm
  have hBd : B ≤ 64 := by have := hLB.out; have := hL.out; have := hB.out; omega
  rw [hL.out] at hd1 hd8
  have hbn : Lib.bitLen ((n : Int).toNat) = B := by simpa using hB.out
  rw [hbn] at HL
  clear hbn
  rw [digits_len, hL.out]
  have HLB := Lib.hid (show (max 1 (((B : Int) + 7) / 8)) = (L : Int) by have := hLB.out; omega)
  have hb0 := Lib.hid (Below.refl w.heap.size w)
  go_enter Try.func67, Try.ntmps67
  go_wp2_with (first | (go_at_call 80; go_must (refine (HL.out _).mono ?_); rintro e w' ⟨rfl, rfl⟩) | (at_make; go_must (refine wpList_make_full _ rfl _ _ 22 rfl w.heap.size 5 i0 (.int .u8 0) 1 Try.underlying22 hi hz0 hz1 .i64 .i64 _ _ L rfl rfl HLB.out HLB.out (by rw [hz2]; omega) (by unfold maxLen; omega) (Nat.le_refl _) ?_); intro w1 ho1 hg1))
  rw [made_zeros] at ho1
  have HO : Hid (Own w1 w.heap.size 5 (some ⟨w.heap.size, 0, none⟩) L L (List.replicate L 0)) := ho1
  have HB1 := Lib.hid (hb0.out.grown hg1 (Nat.le_refl _) (fun _ h => by cases h))
  clear ho1 hg1
  go_loopw [0, 4] (fun v i wr => ∃ j m : Nat, ∃ tail, j ≤ L ∧ i = .int .i64 ((j : Int) - 1) ∧ v = .int .u64 m ∧ Own wr w.heap.size 5 (some ⟨w.heap.size, 0, none⟩) L L (List.replicate j 0 ++ tail) ∧ dg L n = dg j m ++ tail ∧ Below w.heap.size w wr) (fun _ i _ => (intOf i + 1).toNat)
  case atStart => exact ⟨L, n, [], Nat.le_refl _, rfl, rfl, by simpa using HO.out, by simp, HB1.out⟩
  case round =>
    obtain ⟨j, m, tail, hj, rfl, rfl, ho, hd, hb⟩ := hrel
    have HD := Lib.hid hd
    have HB := Lib.hid hb
    clear hd hb
    cases j with
    | zero =>
      have HO := Lib.hid ho
      clear ho
      rw [show (((0 : Nat) : Int) - 1) = -1 from rfl]
      go_wp2
      go_ret
      have e : digits n = [] ++ tail := by unfold digits; rw [hL.out, HD.out]; rfl
      exact ⟨_, L, rfl, by rw [e]; exact HO.out, HB.out⟩
    | succ k =>
      have hc := ho.cell (j := k) (by simp; omega)
      have hf := ho.frozen k
      have e0 : (List.replicate (k + 1) 0 ++ tail)[k]'(by simp; omega) = (0 : UInt8) := by simp
      rw [e0] at hc
      clear e0
      have HO := Lib.hid (ho.stored k (UInt8.ofNat m))
      clear ho
      rw [show (((k + 1 : Nat) : Int) - 1) = k from by omega]
      go_wp2
      rw [byte_wrap m]
      refine ⟨⟨k, m / 256, UInt8.ofNat m :: tail, by omega, rfl, by simp, by rw [← fill_step]; exact HO.out, by rw [HD.out]; simp [dg], HB.out.setCell (Nat.le_refl _) _⟩, by simp [intOf]⟩
end Go.Proofs.Ytkkomaohcijhnaa
namespace Go.Proofs.Ytkkomaohcijhnaa
open Go.RowKit
set_option maxRecDepth 100000
set_option maxHeartbeats 1000000 in
theorem ref_minimal_any (n : Nat) : ∀ (v : Int) (w : World), Hid (v = n) → Hid (n < 18446744073709551616) →
    Calls Try.prog 68 #[.int .u64 v] w fun e w' => ∃ a c, e = .returned (.slice a (digits n).length c) ∧ Own w' w.heap.size 5 a (digits n).length c (digits n) ∧ Below w.heap.size w w' := by
  induction n using Nat.strongRecOn with
  | _ n ih =>
  intro v w hv hn
  obtain rfl := hv.out
  clear hv
  by_cases h : n < 256
  · have HD := Lib.hid (digits_small h)
    go_enter Try.func68, Try.ntmps68
    generalize hK : (256 : Int) = K
    have HK := Lib.hid hK
    have hnK : (n : Int) < K := by omega
    clear hK h
    go_wp2
    go_ret
    rw [HD.out]
    have e : cellsOf [UInt8.ofNat n] = #[Value.int .u8 ((n : Int) % 256)].toList := by simp [cellsOf]
    refine ⟨_, 1, rfl, ?_, (Below.refl _ _).alloc (Nat.le_refl _) _⟩
    show World.ownsRow _ _ _ _ _ _ _
    rw [e]
    exact World.ownsRow_lit w _ 1 (Nat.le_refl _) (by decide) rfl
  · have HD := Lib.hid (digits_big (by omega) hn.out)
    obtain ⟨hd1, hd8⟩ := ndig_bd (n := n / 256) (by have := hn.out; omega)
    rw [← digits_len] at hd1 hd8
    obtain ⟨i0, hi, hz0, hz1, hz2⟩ := info_parts info_u8
    go_enter Try.func68, Try.ntmps68
    generalize hK : (256 : Int) = K
    have HK := Lib.hid hK
    have hnK : ¬ (n : Int) < K := by omega
    have hK1 : 1 ≤ K := by omega
    have HI := Lib.hid (fun w => ih (n / 256) (by omega) (IntKind.u64.wrap ((n : Int) / K)) w (by show _ = _; rw [← hK, IntKind.wrap_u64]; have := hn.out; omega) (by show _ < _; have := hn.out; omega))
    clear hK h ih
    generalize digits (n / 256) = l at *
    go_wp2_with (first | (at_builtin; go_must (refine wpList_append_own _ rfl _ _ 22 rfl w.heap.size 5 i0 (.int .u8 0) 1 1 Try.underlying22 hi hz0 hz1 hz2 rfl (by decide) _ _ (cellsOf l) rfl (World.ownsRow.alloc ho1 _) ⟨w1.heap.size, 0, none⟩ 1 1 [.int .u8 ((n : Int) % K % 256)] rfl rfl ?c1 ?c2 ?c3 ?c4 ?c5 ?_)) | (go_at_call 68; go_must (refine (HI.out _).mono ?_); rintro e w1 ⟨a1, c1, rfl, ho1, hb1⟩))
    case c1 => exact news1 _ _ _
    case c2 => intro u hu; simp only [List.mem_singleton] at hu; subst hu; rfl
    case c3 => unfold maxLen; omega
    case c4 => omega
    case c5 => have := hb1.size; simp; omega
    intro v' w2 hown hgrow _
    have HO := Lib.hid hown
    have HG := Lib.hid hgrow
    clear hown hgrow
    go_wp2
    go_ret
    obtain ⟨a', c', rfl, ho⟩ := Own.append_form (x := UInt8.ofNat n) HO.out (by rw [← HK.out, ← byte_wrap]; omega)
    rw [HD.out]
    have hlen : (l ++ [UInt8.ofNat n]).length = l.length + 1 := by simp
    rw [hlen]
    refine ⟨a', c', rfl, ho, (hb1.alloc hb1.size _).grown HG.out (by have := hb1.size; simp; omega) ?_⟩
    intro k hk
    exact (ho1.lt k hk).1
end Go.Proofs.Ytkkomaohcijhnaa
namespace Go.Proofs.Ytkkomaohcijhnaa
open Go.RowKit
theorem own_lit {w : World} {B : Nat} (e : TypeId) (cs : Array Value) (l : List UInt8) (n : Nat) (h : cs.toList = cellsOf l) (hn : l.length = n) (hm : n ≤ maxLen) (hB : B ≤ w.heap.size) : Own (w.alloc (.cells cs e)) B e (some ⟨w.heap.size, 0, none⟩) n n l := by
  have hs : cs.size = n * 1 := by
    have : cs.toList.length = (cellsOf l).length := by rw [h]
    rw [cellsOf_len] at this
    simp at this
    omega
  have h1 := World.ownsRow_lit (e := e) (size := 1) (base := B) w cs n hB hm hs
  rw [h] at h1
  exact h1
theorem bs_lit (w : World) (e : TypeId) (cs : Array Value) (l : List UInt8) (n : Nat) (h : cs.toList = cellsOf l) (hn : l.length = n) (hm : n ≤ maxLen) : Bs (w.alloc (.cells cs e)) (some ⟨w.heap.size, 0, none⟩) n n l :=
  (own_lit (B := 0) e cs l n h hn hm (Nat.zero_le _)).bs
theorem bs_lit_at {w : World} {H : Nat} {e : TypeId} {cs : Array Value} {l : List UInt8} {n : Nat} (hH : w.heap.size = H) (h : cs.toList = cellsOf l) (hn : l.length = n) (hm : n ≤ maxLen) : Bs (w.alloc (.cells cs e)) (some ⟨H, 0, none⟩) n n l := by
  subst hH
  exact bs_lit w e cs l n h hn hm
end Go.Proofs.Ytkkomaohcijhnaa
namespace Go.Proofs.Ytkkomaohcijhnaa
open Go.RowKit
set_option maxRecDepth 100000
theorem length_bad {n : Int} (h : n < 0 ∨ 2147483647 < n) (w : World) :
    Calls Try.prog 52 #[.int .i64 n] w fun e w' => e = .returned (.tuple #[.slice none 0 0, .int .i64 9]) ∧ w = w' := by
  rcases h with h | h
  · go_enter Try.func52, Try.ntmps52
    go_wp2
    go_ret2
    exact ⟨rfl, rfl⟩
  · go_enter Try.func52, Try.ntmps52
    go_wp2
    go_ret2
    exact ⟨rfl, rfl⟩
set_option maxRecDepth 100000 in
theorem length_ok {n : Nat} (h : n ≤ 2147483647) (w : World) :
    Calls Try.prog 52 #[.int .i64 n] w fun e w' => ∃ a c, e = .returned (.tuple #[.slice a (lenOct n).length c, .int .i64 0]) ∧ Own w' w.heap.size 5 a (lenOct n).length c (lenOct n) ∧ Below w.heap.size w w' := by
  have HM := Lib.hid (fun w => minimal_any (n := n) (by show _ < _; omega) w)
  by_cases hs : n < 128
  · rw [lenOct_short hs]
    have hs' : (n : Int) < 128 := by omega
    have hn0 : (0 : Int) ≤ n := by omega
    have HH := Lib.hid h
    clear hs h
    go_enter Try.func52, Try.ntmps52
    generalize hK : (2147483647 : Int) = K
    have hnK : (n : Int) ≤ K := by have := HH.out; omega
    clear hK
    go_wp2_with fail
    refine (HM.out _).mono ?_
    rintro e w' ⟨a, c, rfl, ho, hb⟩
    have HO := Lib.hid ho
    have HB := Lib.hid hb
    clear ho hb
    go_wp2
    go_ret2
    exact ⟨a, c, rfl, HO.out, HB.out⟩
  · have hl := Lib.hid (lenOct_long hs)
    have hs' : ¬ (n : Int) < 128 := by omega
    have hn0 : (0 : Int) ≤ n := by omega
    have hw := u64_wrap (m := n) (by omega)
    have hd := ndig_bd (n := n) (by omega)
    have HH := Lib.hid h
    clear hs h
    rw [hl.out, List.length_cons]
    rw [← digits_len] at hl hd ⊢
    clear hl
    generalize digits n = l at *
    go_enter Try.func52, Try.ntmps52
    generalize hK : (2147483647 : Int) = K
    have hnK : (n : Int) ≤ K := by have := HH.out; omega
    clear hK
    go_wp2_with fail
    refine (HM.out _).mono ?_
    rintro e w' ⟨a, c, rfl, ho, hb⟩
    have HO := Lib.hid ho
    have HB := Lib.hid hb
    clear ho hb
    have hl2 := Lib.hid (show #[Value.int .u8 (128 + l.length)].toList = cellsOf [lenHead l.length] by simp only [cellsOf, List.map_cons, List.map_nil, lenHead_val hd.2])
    have hbw := HB.out.size
    obtain ⟨i0, hi, hz0, hz1, hz2⟩ := info_parts info_u8
    go_wp2_with (at_builtin; go_must (refine wpList_app _ rfl _ _ 22 rfl w.heap.size 5 i0 Try.underlying22 hi hz0 hz1 hz2 (some ⟨w'.heap.size, 0, none⟩) 1 1 [lenHead l.length] rfl (own_lit _ _ _ 1 hl2.out rfl (by decide) hbw) a l.length c l rfl (HO.out.bs.alloc _) ?c1 ?c2 ?_))
    case c1 => omega
    case c2 => simp; omega
    intro a' c' w2 ho2 hg2
    have O2 := Lib.hid ho2
    have B2 := Lib.hid ((bal HB.out _).grown hg2 (by simp; omega) (fun k hk => by simp [Value.ownBlock] at hk; omega))
    clear ho2 hg2
    go_wp2
    go_ret2
    exact ⟨a', c', by rw [Nat.add_comm l.length 1]; rfl, by rw [Nat.add_comm l.length 1]; exact O2.out, B2.out⟩
set_option maxRecDepth 100000 in
theorem ref_length_ok {n : Nat} (h : n ≤ 2147483647) (w : World) :
    Calls Try.prog 54 #[.int .i64 n] w fun e w' => ∃ a c, e = .returned (.tuple #[.slice a (lenOct n).length c, .int .i64 0]) ∧ Own w' w.heap.size 5 a (lenOct n).length c (lenOct n) ∧ Below w.heap.size w w' := by
  have HM := Lib.hid (fun w => ref_minimal_any n n w rfl (by show _ < _; omega))
  by_cases hs : n < 128
  · rw [lenOct_short hs]
    have hs' : (n : Int) < 128 := by omega
    have hn0 : (0 : Int) ≤ n := by omega
    have HH := Lib.hid h
    clear hs h
    go_enter Try.func54, Try.ntmps54
    generalize hK : (2147483647 : Int) = K
    have hnK : (n : Int) ≤ K := by have := HH.out; omega
    clear hK
    go_wp2_with fail
    refine (HM.out _).mono ?_
    rintro e w' ⟨a, c, rfl, ho, hb⟩
    have HO := Lib.hid ho
    have HB := Lib.hid hb
    clear ho hb
    go_wp2
    go_ret2
    exact ⟨a, c, rfl, HO.out, HB.out⟩
  · have hl := Lib.hid (lenOct_long hs)
    have hs' : ¬ (n : Int) < 128 := by omega
    have hn0 : (0 : Int) ≤ n := by omega
    have hw := u64_wrap (m := n) (by omega)
    have hd := ndig_bd (n := n) (by omega)
    have HH := Lib.hid h
    clear hs h
    rw [hl.out, List.length_cons]
    rw [← digits_len] at hl hd ⊢
    clear hl
    generalize digits n = l at *
    go_enter Try.func54, Try.ntmps54
    generalize hK : (2147483647 : Int) = K
    have hnK : (n : Int) ≤ K := by have := HH.out; omega
    clear hK
    go_wp2_with fail
    refine (HM.out _).mono ?_
    rintro e w' ⟨a, c, rfl, ho, hb⟩
    have HO := Lib.hid ho
    have HB := Lib.hid hb
    clear ho hb
    have hl2 := Lib.hid (show #[Value.int .u8 (128 + l.length)].toList = cellsOf [lenHead l.length] by simp only [cellsOf, List.map_cons, List.map_nil, lenHead_val hd.2])
    have hbw := HB.out.size
    obtain ⟨i0, hi, hz0, hz1, hz2⟩ := info_parts info_u8
    go_wp2_with (at_builtin; go_must (refine wpList_app _ rfl _ _ 22 rfl w.heap.size 5 i0 Try.underlying22 hi hz0 hz1 hz2 (some ⟨w'.heap.size, 0, none⟩) 1 1 [lenHead l.length] rfl (own_lit _ _ _ 1 hl2.out rfl (by decide) hbw) a l.length c l rfl (HO.out.bs.alloc _) ?c1 ?c2 ?_))
    case c1 => omega
    case c2 => simp; omega
    intro a' c' w2 ho2 hg2
    have O2 := Lib.hid ho2
    have B2 := Lib.hid ((bal HB.out _).grown hg2 (by simp; omega) (fun k hk => by simp [Value.ownBlock] at hk; omega))
    clear ho2 hg2
    go_wp2
    go_ret2
    exact ⟨a', c', by rw [Nat.add_comm l.length 1]; rfl, by rw [Nat.add_comm l.length 1]; exact O2.out, B2.out⟩
end Go.Proofs.Ytkkomaohcijhnaa
namespace Go.Proofs.Ytkkomaohcijhnaa
open Go.RowKit
theorem bs_drop {w : World} {b off n c : Nat} {l : List UInt8} (h : Bs w (some ⟨b, off, none⟩) n c l) {i : Nat} (hi : i ≤ n) :
    Bs w (if c = i then some ⟨b, off, none⟩ else some ⟨b, off + i, none⟩) (n - i) (c - i) (l.drop i) := by
  obtain ⟨h1, h2, h3, h4⟩ := h
  refine ⟨by rw [List.length_drop, h1], by omega, by omega, fun hn => ?_⟩
  rw [if_neg (by omega)]
  obtain ⟨b', off', e, hb, hc⟩ := h4 (by omega)
  injection e with e
  injection e with e1 e2
  subst e1; subst e2
  refine ⟨b, off + i, rfl, hb, fun j hj => ?_⟩
  rw [List.getElem_drop, Nat.add_assoc]
  exact hc (i + j) (by rw [List.length_drop] at hj; omega)
theorem bs_drop_one {w : World} {b off n c : Nat} {x : UInt8} {l : List UInt8} (h : Bs w (some ⟨b, off, none⟩) n c (x :: l)) (hc : c = 1) : Bs w (some ⟨b, off, none⟩) (n - 1) 0 l := by
  subst hc
  have hl := h.1
  have hn := h.2.1
  simp only [List.length_cons] at hl
  exact ⟨by omega, by omega, by unfold maxLen; omega, fun h0 => by omega⟩
theorem bs_drop_more {w : World} {b off n c : Nat} {x : UInt8} {l : List UInt8} (h : Bs w (some ⟨b, off, none⟩) n c (x :: l)) (hc : ¬ c = 1) : Bs w (some ⟨b, off + 1, none⟩) (n - 1) (c - 1) l := by
  have hl := h.1
  simp only [List.length_cons] at hl
  have := bs_drop h (i := 1) (by omega)
  rw [if_neg hc] at this
  exact this
theorem bs_mid {w : World} {b off n c : Nat} {l : List UInt8} (h : Bs w (some ⟨b, off, none⟩) n c l) {i m : Nat} (hi : i + m ≤ n) (hm : 0 < m) :
    Bs w (some ⟨b, off + i, none⟩) m (c - i) ((l.drop i).take m) := by
  obtain ⟨h1, h2, h3, h4⟩ := h
  refine ⟨by simp; omega, by omega, by omega, fun hn => ?_⟩
  obtain ⟨b', off', e, hb, hc⟩ := h4 (by omega)
  injection e with e
  injection e with e1 e2
  subst e1; subst e2
  refine ⟨b, off + i, rfl, hb, fun j hj => ?_⟩
  rw [List.getElem_take, List.getElem_drop, Nat.add_assoc]
  exact hc (i + j) (by simp at hj; omega)
theorem bs_take {w : World} {a : Option Addr} {n c : Nat} {l : List UInt8} (h : Bs w a n c l) {m : Nat} (hm : m ≤ n) : Bs w a m c (l.take m) :=
  ⟨by have := h.1; simp; omega, by have := h.2.1; omega, h.2.2.1, fun h0 => by
    obtain ⟨b, off, e, hb, hc⟩ := h.2.2.2 (by omega)
    exact ⟨b, off, e, hb, fun i hi => by rw [List.getElem_take]; exact hc i (by simp at hi; omega)⟩⟩
end Go.Proofs.Ytkkomaohcijhnaa
namespace Go.Proofs.Ytkkomaohcijhnaa
open Go.RowKit
theorem ret_rl {l : List UInt8} {n s c o : Nat} (h : rdLen l = ⟨n, s, c, o⟩) :
    Ending.returned (.tuple #[.int .i64 n, .int .i64 s, .agg #[.int .i64 c, .int .i64 o]]) = .returned (.tuple #[.int .i64 (rdLen l).n, .int .i64 (rdLen l).size, .agg #[.int .i64 (rdLen l).code, .int .i64 (rdLen l).off]]) := by rw [h]
theorem below_pair {w w2 : World} (h : Below w.heap.size w w2) (u v : Value) : Below w.heap.size w ((w2.setCell ⟨w.heap.size, 0, none⟩ u).setCell ⟨w.heap.size, 1, none⟩ v) := (h.setCell (Nat.le_refl _) _).setCell (Nat.le_refl _) _
theorem below_draw {w w2 : World} (h : Below w.heap.size w w2) : Below w.heap.size w w2.drew := below_drewN h 1
theorem below_at {B : Nat} {a w : World} (h : Below B a w) (o : Nat) (u : Value) : Below B a (w.setCell ⟨B, o, none⟩ u) := h.setCell (Nat.le_refl _) _
theorem below_at1 {B : Nat} {a w : World} (h : Below B a w) (o : Nat) (u : Value) : Below B a (w.setCell ⟨B + 1, o, none⟩ u) := h.setCell (Nat.le_succ _) _
end Go.Proofs.Ytkkomaohcijhnaa
