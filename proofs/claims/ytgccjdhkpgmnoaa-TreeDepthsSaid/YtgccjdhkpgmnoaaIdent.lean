/-
  Contracts of Identifier and ReadIdentifier, of the program and of the reference.
-/
import Derived.Test.YtgccjdhkpgmnoaaChecked
import Derived.WalkKit
import Derived.ProofKit
import Derived.Below
import Derived.OwnWalk
import Derived.Outline
import Derived.Deep.QuietTactic
import Derived.Lib.Hide
import Derived.BigQuiet
import Derived.Test.YtgccjdhkpgmnoaaWords
import Derived.Deep.DeepMust
import Derived.WalkLawsBesides
import Derived.Laws.BitsAllLaws
import Derived.Laws.Shifts
namespace Go.Proofs.Ytgccjdhkpgmnoaa
open Go.RowKit

/-- the identifier octet of a tag -/
def idByte (c n : Nat) (k : Bool) : UInt8 := UInt8.ofNat (c * 64 + n + if k then 32 else 0)

theorem and31 (x : UInt8) : bits BinOp.and IntKind.u8 (x.toNat : Int) 31 = ((x.toNat % 32 : Nat) : Int) := by
  have h : ∀ i : Fin 256, bits BinOp.and IntKind.u8 ((i.val : Nat) : Int) 31 = ((i.val % 32 : Nat) : Int) := by decide +kernel
  exact h ⟨x.toNat, x.toNat_lt⟩
theorem and32 (x : UInt8) : (bits BinOp.and IntKind.u8 (x.toNat : Int) 32 != 0) = (x.toNat / 32 % 2 == 1) := by
  have h : ∀ i : Fin 256, (bits BinOp.and IntKind.u8 ((i.val : Nat) : Int) 32 != 0) = (i.val / 32 % 2 == 1) := by decide +kernel
  exact h ⟨x.toNat, x.toNat_lt⟩
theorem tag_or {c n : Nat} (hc : c ≤ 3) (hn : n ≤ 30) : bits BinOp.or IntKind.i64 ((c : Int) * 64) (n : Int) = ((c * 64 + n : Nat) : Int) := by
  have h : ∀ (i : Fin 4) (j : Fin 31), bits BinOp.or IntKind.i64 (((i.val : Nat) : Int) * 64) ((j.val : Nat) : Int) = ((i.val * 64 + j.val : Nat) : Int) := by decide +kernel
  exact h ⟨c, by omega⟩ ⟨n, by omega⟩
theorem tag_or32 {c n : Nat} (hc : c ≤ 3) (hn : n ≤ 30) : bits BinOp.or IntKind.u8 (((c * 64 + n : Nat) : Int) % 256) 32 = ((c * 64 + n + 32 : Nat) : Int) := by
  have h : ∀ (i : Fin 4) (j : Fin 31), bits BinOp.or IntKind.u8 (((i.val * 64 + j.val : Nat) : Int) % 256) 32 = ((i.val * 64 + j.val + 32 : Nat) : Int) := by decide +kernel
  exact h ⟨c, by omega⟩ ⟨n, by omega⟩
theorem ret_tag {a b : Int} {z : Value} (h : a = b) : Ending.returned (.tuple #[.int .u8 a, z]) = .returned (.tuple #[.int .u8 b, z]) := by rw [h]
theorem idByte_false (c n : Nat) : ((idByte c n false).toNat : Int) = ((c * 64 + n : Nat) : Int) % 256 := by simp [idByte]
theorem idByte_true {c n : Nat} (hc : c ≤ 3) (hn : n ≤ 30) : ((idByte c n true).toNat : Int) = ((c * 64 + n + 32 : Nat) : Int) := by
  simp [idByte]
  omega

theorem identifier_ok {c n : Nat} (hc : c ≤ 3) (hn : n ≤ 30) (k : Bool) (w : World) :
    Calls Try.prog 43 #[.int .i64 c, .bool k, .int .i64 n] w fun e w' => e = .returned (.tuple #[.int .u8 (idByte c n k).toNat, .int .i64 0]) ∧ w = w' := by
  cases k
  · go_enter Try.func43, Try.ntmps43
    go_wp2
    go_ret2
    exact ⟨ret_tag (by rw [idByte_false _ _, tag_or hc hn]), rfl⟩
  · go_enter Try.func43, Try.ntmps43
    go_wp2
    go_ret2
    exact ⟨ret_tag (by rw [idByte_true hc hn, tag_or hc hn, tag_or32 hc hn]), rfl⟩
theorem ref_identifier_ok {c n : Nat} (hc : c ≤ 3) (hn : n ≤ 30) (k : Bool) (w : World) :
    Calls Try.prog 35 #[.int .i64 c, .bool k, .int .i64 n] w fun e w' => e = .returned (.tuple #[.int .u8 (idByte c n k).toNat, .int .i64 0]) ∧ w = w' := by
  cases k
  · go_enter Try.func35, Try.ntmps35
    go_wp2
    go_ret2
    exact ⟨ret_tag (by rw [idByte_false _ _]; omega), rfl⟩
  · go_enter Try.func35, Try.ntmps35
    go_wp2
    go_ret2
    exact ⟨ret_tag (by rw [idByte_true hc hn]; omega), rfl⟩
theorem identifier_bad {c n : Int} (h : c < 0 ∨ 3 < c ∨ n < 0 ∨ 30 < n) (k : Bool) (w : World) :
    Calls Try.prog 43 #[.int .i64 c, .bool k, .int .i64 n] w fun e w' => e = .returned (.tuple #[.int .u8 0, .int .i64 9]) ∧ w = w' := by
  have H := Lib.hid h
  clear h
  go_enter Try.func43, Try.ntmps43
  go_wp2
  all_goals first | (exfalso; have := H.out; omega) | (go_ret2; exact ⟨rfl, rfl⟩)
theorem ref_identifier_bad {c n : Int} (h : c < 0 ∨ 3 < c ∨ n < 0 ∨ 30 < n) (k : Bool) (w : World) :
    Calls Try.prog 35 #[.int .i64 c, .bool k, .int .i64 n] w fun e w' => e = .returned (.tuple #[.int .u8 0, .int .i64 9]) ∧ w = w' := by
  have H := Lib.hid h
  clear h
  go_enter Try.func35, Try.ntmps35
  go_wp2
  all_goals first | (exfalso; have := H.out; omega) | (go_ret2; exact ⟨rfl, rfl⟩)

/-- what ReadIdentifier returns -/
def idOk (x : UInt8) : Bool := x.toNat % 32 != 31
theorem ret_id {a a' c c' : Int} {b b' : Bool} (h1 : a = a') (h2 : b = b') (h3 : c = c') : Ending.returned (.tuple #[.int .i64 a, .bool b, .int .i64 c, .int .i64 0]) = .returned (.tuple #[.int .i64 a', .bool b', .int .i64 c', .int .i64 0]) := by rw [h1, h2, h3]
theorem readIdentifier_ok {x : UInt8} (w : World) (h : idOk x = true) :
    Calls Try.prog 45 #[.int .u8 x.toNat] w fun e w' => e = .returned (.tuple #[.int .i64 (x.toNat / 64 : Nat), .bool (x.toNat / 32 % 2 == 1), .int .i64 (x.toNat % 32 : Nat), .int .i64 0]) ∧ w = w' := by
  have hx := byte_bd x
  have h1 := and31 x
  have h2 := and32 x
  obtain ⟨r, hr⟩ : ∃ r : Nat, Hid (x.toNat % 32 = r) := ⟨_, rfl⟩
  have hr1 : (0 : Int) ≤ r ∧ (r : Int) ≤ 30 := by
    have := hr.out
    simp [idOk] at h
    omega
  rw [hr.out] at h1 ⊢
  generalize (x.toNat / 32 % 2 == 1) = b at *
  clear h
  go_enter Try.func45, Try.ntmps45
  go_wp2
  exact bodyPost_ret (v := .tuple #[.int .i64 (x.toNat / 64), .bool b, .int .i64 r, .int .i64 0]) (by simp [results, Try.results45, go_sem]) rfl ⟨ret_id (by omega) rfl rfl, rfl⟩
theorem readIdentifier_bad {x : UInt8} (w : World) (h : idOk x = false) :
    Calls Try.prog 45 #[.int .u8 x.toNat] w fun e w' => e = .returned (.tuple #[.int .i64 0, .bool false, .int .i64 0, .int .i64 3]) ∧ w = w' := by
  have hx := byte_bd x
  have h1 := and31 x
  have hr : x.toNat % 32 = 31 := by simpa [idOk] using h
  rw [hr] at h1
  clear h hr
  go_enter Try.func45, Try.ntmps45
  go_wp2
  exact bodyPost_ret (v := .tuple #[.int .i64 0, .bool false, .int .i64 0, .int .i64 3]) (by simp [results, Try.results45, go_sem]) rfl ⟨rfl, rfl⟩
theorem ref_readIdentifier_bad {x : UInt8} (w : World) (h : idOk x = false) :
    Calls Try.prog 61 #[.int .u8 x.toNat] w fun e w' => e = .returned (.tuple #[.int .i64 0, .bool false, .int .i64 0, .int .i64 3]) ∧ w = w' := by
  have hx := byte_bd x
  have h1 : ((x.toNat : Int) % 32 == 31) = true := by
    simp [idOk] at h
    simp
    omega
  clear h
  go_enter Try.func61, Try.ntmps61
  go_wp2
  exact bodyPost_ret (v := .tuple #[.int .i64 0, .bool false, .int .i64 0, .int .i64 3]) (by simp [results, Try.results61, go_sem]) rfl ⟨rfl, rfl⟩
theorem ref_readIdentifier_ok {x : UInt8} (w : World) (h : idOk x = true) :
    Calls Try.prog 61 #[.int .u8 x.toNat] w fun e w' => e = .returned (.tuple #[.int .i64 (x.toNat / 64 : Nat), .bool (x.toNat / 32 % 2 == 1), .int .i64 (x.toNat % 32 : Nat), .int .i64 0]) ∧ w = w' := by
  have hx := byte_bd x
  have h1 : ((x.toNat : Int) % 32 == 31) = false := by
    simp [idOk] at h
    simp
    omega
  clear h
  go_enter Try.func61, Try.ntmps61
  go_wp2
  exact bodyPost_ret (v := .tuple #[.int .i64 (x.toNat / 64), .bool (((x.toNat : Int) / 32 % 2 == 1)), .int .i64 (x.toNat % 32), .int .i64 0]) (by simp [results, Try.results61, go_sem]) rfl ⟨ret_id (by omega) (by rw [Bool.eq_iff_iff, beq_iff_eq, beq_iff_eq]; omega) (by omega), rfl⟩
end Go.Proofs.Ytgccjdhkpgmnoaa
