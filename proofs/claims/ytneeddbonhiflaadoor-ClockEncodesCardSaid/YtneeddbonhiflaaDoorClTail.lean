/-
  Contract of the reference's tail.
-/
import Derived.Test.YtneeddbonhiflaaDoorClDig
import Derived.BigQuiet
namespace Go.Proofs.YtneeddbonhiflaaDoor
open Go.RowKit

/-- what follows the year -/
def tailO (t : Tm) : List UInt8 := digO t.m 2 ++ digO t.d 2 ++ digO t.h 2 ++ digO t.i 2 ++ digO t.s 2 ++ [90]
theorem tailO_len (t : Tm) : (tailO t).length = 11 := by
  simp only [tailO, List.length_append, digO_len]
  rfl
theorem str_sz (l : List UInt8) : (⟨l.toArray⟩ : ByteArray).size = l.length := rfl

set_option maxRecDepth 100000 in
set_option maxHeartbeats 2000000 in
theorem tail_any (t : Tm) (hm : 0 ≤ t.m ∧ t.m ≤ 1000000) (hd : 0 ≤ t.d ∧ t.d ≤ 1000000) (hh : 0 ≤ t.h ∧ t.h ≤ 1000000) (hi : 0 ≤ t.i ∧ t.i ≤ 1000000) (hs : 0 ≤ t.s ∧ t.s ≤ 1000000) (w : World) :
    Calls Tryd.prog 29 #[tmV t] w fun e w' => e = .returned (.string ⟨(tailO t).toArray⟩) ∧ Below w.heap.size w w' := by
  obtain ⟨y, m, d, h, i, s⟩ := t
  have HJ : Hid ((⟨(digO m 2).toArray⟩ : ByteArray) ++ ⟨(digO d 2).toArray⟩ ++ ⟨(digO h 2).toArray⟩ ++ ⟨(digO i 2).toArray⟩ ++ ⟨(digO s 2).toArray⟩ ++ ⟨#[90]⟩ = ⟨(tailO ⟨y, m, d, h, i, s⟩).toArray⟩) := by
    show (⟨(digO m 2).toArray⟩ : ByteArray) ++ ⟨(digO d 2).toArray⟩ ++ ⟨(digO h 2).toArray⟩ ++ ⟨(digO i 2).toArray⟩ ++ ⟨(digO s 2).toArray⟩ ++ ⟨[90].toArray⟩ = _
    rw [str_join, str_join, str_join, str_join, str_join]
    rfl
  unfold tmV
  dsimp only at hm hd hh hi hs ⊢
  have H1 : Hid (∀ w, Calls Tryd.prog 28 #[.int .i64 m, .int .i64 2] w fun e w' => e = .returned (.string ⟨(digO m 2).toArray⟩) ∧ ∃ k, w' = w.drewN k) := Lib.hid fun w => digits_any 2 m w hm.1 hm.2 (by omega)
  have H2 : Hid (∀ w, Calls Tryd.prog 28 #[.int .i64 d, .int .i64 2] w fun e w' => e = .returned (.string ⟨(digO d 2).toArray⟩) ∧ ∃ k, w' = w.drewN k) := Lib.hid fun w => digits_any 2 d w hd.1 hd.2 (by omega)
  have H3 : Hid (∀ w, Calls Tryd.prog 28 #[.int .i64 h, .int .i64 2] w fun e w' => e = .returned (.string ⟨(digO h 2).toArray⟩) ∧ ∃ k, w' = w.drewN k) := Lib.hid fun w => digits_any 2 h w hh.1 hh.2 (by omega)
  have H4 : Hid (∀ w, Calls Tryd.prog 28 #[.int .i64 i, .int .i64 2] w fun e w' => e = .returned (.string ⟨(digO i 2).toArray⟩) ∧ ∃ k, w' = w.drewN k) := Lib.hid fun w => digits_any 2 i w hi.1 hi.2 (by omega)
  have H5 : Hid (∀ w, Calls Tryd.prog 28 #[.int .i64 s, .int .i64 2] w fun e w' => e = .returned (.string ⟨(digO s 2).toArray⟩) ∧ ∃ k, w' = w.drewN k) := Lib.hid fun w => digits_any 2 s w hs.1 hs.2 (by omega)
  have s1 : (⟨(digO m 2).toArray⟩ : ByteArray).size = 2 := by rw [str_sz, digO_len]
  have s2 : (⟨(digO d 2).toArray⟩ : ByteArray).size = 2 := by rw [str_sz, digO_len]
  have s3 : (⟨(digO h 2).toArray⟩ : ByteArray).size = 2 := by rw [str_sz, digO_len]
  have s4 : (⟨(digO i 2).toArray⟩ : ByteArray).size = 2 := by rw [str_sz, digO_len]
  have s5 : (⟨(digO s 2).toArray⟩ : ByteArray).size = 2 := by rw [str_sz, digO_len]
  clear hm hd hh hi hs
  generalize (⟨(tailO ⟨y, m, d, h, i, s⟩).toArray⟩ : ByteArray) = R at *
  generalize (⟨(digO m 2).toArray⟩ : ByteArray) = S1 at *
  generalize (⟨(digO d 2).toArray⟩ : ByteArray) = S2 at *
  generalize (⟨(digO h 2).toArray⟩ : ByteArray) = S3 at *
  generalize (⟨(digO i 2).toArray⟩ : ByteArray) = S4 at *
  generalize (⟨(digO s 2).toArray⟩ : ByteArray) = S5 at *
  have HJ2 := HJ.out
  subst HJ2
  clear HJ
  obtain ⟨A, hA⟩ : ∃ A, w.heap.size = A := ⟨_, rfl⟩
  have Z1 := Lib.hid (Blk.new w 23 #[.int .i64 y, .int .i64 m, .int .i64 d, .int .i64 h, .int .i64 i, .int .i64 s])
  rw [hA] at Z1
  have Q1 := Lib.hid (bal (Below.refl w.heap.size w) (.cells #[.int .i64 y, .int .i64 m, .int .i64 d, .int .i64 h, .int .i64 i, .int .i64 s] 23))
  go_enter Tryd.func29, Tryd.ntmps29
  go_wp2_with fail
  generalize w.alloc (.cells #[.int .i64 y, .int .i64 m, .int .i64 d, .int .i64 h, .int .i64 i, .int .i64 s] 23) = w1 at *
  have c1 := Z1.out.cell 1
  have c2 := Z1.out.cell 2
  have c3 := Z1.out.cell 3
  have c4 := Z1.out.cell 4
  have c5 := Z1.out.cell 5
  simp only [List.getElem?_toArray, List.getElem?_cons_zero, List.getElem?_cons_succ] at c1 c2 c3 c4 c5
  go_quiet ((go_at_call 28; first | with_reducible exact quiet_drew' (H1.out _) | with_reducible exact quiet_drew_add' (H1.out _) | with_reducible exact quiet_drew' (H2.out _) | with_reducible exact quiet_drew_add' (H2.out _) | with_reducible exact quiet_drew' (H3.out _) | with_reducible exact quiet_drew_add' (H3.out _) | with_reducible exact quiet_drew' (H4.out _) | with_reducible exact quiet_drew_add' (H4.out _) | with_reducible exact quiet_drew' (H5.out _) | with_reducible exact quiet_drew_add' (H5.out _)))
  go_wp2_with fail
  go_ret
  exact ⟨rfl, below_drewN Q1.out _⟩
end Go.Proofs.YtneeddbonhiflaaDoor
