/-
  The walk of awake (the law's fixed examples), stage 8, over what its callees are asked to keep.
-/
import Derived.Test.YtneeddbonhiflaaDoorClDec
import Derived.Test.YtneeddbonhiflaaDoorClSec
import Derived.Test.YtneeddbonhiflaaDoorLit
import Derived.Lib.SmallJoins
namespace Go.Proofs.YtneeddbonhiflaaDoor
open Go.RowKit

theorem aw_1 : utcE ⟨2000, 1, 1, 0, 0, 0⟩ = ([48, 48, 48, 49, 48, 49, 48, 48, 48, 48, 48, 48, 90], 0) := by decide
theorem aw_2 : utcE ⟨2050, 1, 1, 0, 0, 0⟩ = ([], 9) := by decide
theorem aw_3 : decG [50, 48, 50, 51, 48, 50, 50, 57, 48, 48, 48, 48, 48, 48, 90] = (tm0, 6) := by decide
theorem aw_4 : secE ⟨2000, 1, 1, 0, 0, 0⟩ = (946684800, 0) := by decide
theorem aw_5 : secE ⟨1970, 1, 1, 0, 0, 0⟩ = (0, 0) := by decide
theorem aw_6 : okT ⟨2000, 1, 1, 0, 0, 0⟩ = true := by decide

/-- a literal row, marked behind its end, reads as it did -/
theorem bs_mark {w : World} {e : TypeId} {C : Array Value} {fz : Nat × Nat} {a : Option Addr} {n c : Nat} {l : List UInt8} (h : Bs (w.alloc (.cells C e)) a n c l) : Bs (w.alloc (.cells C e fz)) a n c l :=
  h.keep (by show (w.heap.push _).size ≤ (w.heap.push _).size; rw [Array.size_push, Array.size_push]; exact Nat.le_refl _) fun p _ => by
    simp only [World.cell?, World.alloc, Array.getElem?_push]
    by_cases hp : p.block = w.heap.size
    · rw [if_pos hp, if_pos hp]
    · rw [if_neg hp, if_neg hp]

set_option maxRecDepth 100000 in
set_option maxHeartbeats 8000000 in
theorem awake_walk (w : World)
    (HE : ∀ (t : Tm) (v : World), Below w.heap.size w v → Calls Tryd.prog 9 #[tmV t] v fun e w' => ∃ a c, e = .returned (.tuple #[.slice a (utcE t).1.length c, .int .i64 (utcE t).2]) ∧ Bs w' a (utcE t).1.length c (utcE t).1 ∧ Below v.heap.size v w')
    (HD : ∀ (v : World) (a : Option Addr) (n c : Nat) (l : List UInt8), Bs v a n c l → Below w.heap.size w v → Calls Tryd.prog 17 #[.slice a n c] v fun e w' => e = .returned (.tuple #[tmV (decG l).1, .int .i64 (decG l).2]) ∧ Below v.heap.size v w')
    (HS : ∀ (t : Tm) (v : World), Below w.heap.size w v → Calls Tryd.prog 20 #[tmV t] v fun e w' => e = .returned (.tuple #[.int .i64 (secE t).1, .int .i64 (secE t).2]) ∧ Below v.heap.size v w')
    (HV : ∀ (t : Tm) (v : World), Below w.heap.size w v → Calls Tryd.prog 14 #[tmV t] v fun e w' => e = .returned (.bool (okT t)) ∧ Below v.heap.size v w') :
    Calls Tryd.prog 8 #[] w fun e w' => e = .returned (.bool true) ∧ Below w.heap.size w w' := by
  have H1 := Lib.hid (HE ⟨2000, 1, 1, 0, 0, 0⟩)
  have H2 := Lib.hid (HE ⟨2050, 1, 1, 0, 0, 0⟩)
  have H3 := Lib.hid (fun (v : World) (a : Option Addr) (h : Bs v a 15 15 [50, 48, 50, 51, 48, 50, 50, 57, 48, 48, 48, 48, 48, 48, 90]) (q : Below w.heap.size w v) => HD v a 15 15 _ h q)
  have H4 := Lib.hid (HS ⟨2000, 1, 1, 0, 0, 0⟩)
  have H5 := Lib.hid (HS ⟨1970, 1, 1, 0, 0, 0⟩)
  have H6 := Lib.hid (HV ⟨2000, 1, 1, 0, 0, 0⟩)
  rw [aw_1] at H1
  rw [aw_2] at H2
  rw [aw_3] at H3
  rw [aw_4] at H4
  rw [aw_5] at H5
  rw [aw_6] at H6
  unfold tmV at H1 H2 H3 H4 H5 H6
  unfold tm0 at H3
  dsimp only at H1 H2 H3 H4 H5 H6
  simp only [List.length_cons, List.length_nil, Nat.zero_add, Nat.reduceAdd] at H1 H2
  clear HE HD HS HV
  obtain ⟨A, hA⟩ : ∃ A, w.heap.size = A := ⟨_, rfl⟩
  have K1 := Lib.hid (Blk.new w 23 #[.int .i64 2000, .int .i64 1, .int .i64 1, .int .i64 0, .int .i64 0, .int .i64 0])
  rw [hA] at K1
  have Q1 := Lib.hid (bal (Below.refl w.heap.size w) (.cells #[.int .i64 2000, .int .i64 1, .int .i64 1, .int .i64 0, .int .i64 0, .int .i64 0] 23))
  go_enter Tryd.func8, Tryd.ntmps8
  go_wp2_with fail
  generalize w.alloc (.cells #[.int .i64 2000, .int .i64 1, .int .i64 1, .int .i64 0, .int .i64 0, .int .i64 0] 23) = w1 at *
  with_reducible refine (H1.out _ Q1.out).mono ?_
  rintro e w2 ⟨a2, c2, rfl, b, q⟩
  have K2 := Lib.hid (K1.out.below q K1.out.lt)
  have Q2 := Lib.hid (bthen Q1.out q)
  have B2 := Lib.hid b
  clear q b
  go_wp2_with fail
  with_reducible refine (H2.out _ Q2.out).mono ?_
  rintro e w3 ⟨a3, c3, rfl, b, q⟩
  have K3 := Lib.hid (K2.out.below q K2.out.lt)
  have Q3 := Lib.hid (bthen Q2.out q)
  have B3 := Lib.hid (B2.out.below q)
  clear q b
  obtain ⟨M, hM⟩ : ∃ M, w3.heap.size = M := ⟨_, rfl⟩
  have cv := Go.Joins.run_convert_bytes_const_at (P := Tryd.prog) w3 25 5 #[.int .u8 50, .int .u8 48, .int .u8 50, .int .u8 51, .int .u8 48, .int .u8 50, .int .u8 50, .int .u8 57, .int .u8 48, .int .u8 48, .int .u8 48, .int .u8 48, .int .u8 48, .int .u8 48, .int .u8 90] 15 15 M hM.symm Tryd.underlying25 Tryd.underlying5
  obtain ⟨wm, hwm⟩ : ∃ wm, w3.alloc (.cells #[.int .u8 50, .int .u8 48, .int .u8 50, .int .u8 51, .int .u8 48, .int .u8 50, .int .u8 50, .int .u8 57, .int .u8 48, .int .u8 48, .int .u8 48, .int .u8 48, .int .u8 48, .int .u8 48, .int .u8 90] 5 ((#[.int .u8 50, .int .u8 48, .int .u8 50, .int .u8 51, .int .u8 48, .int .u8 50, .int .u8 50, .int .u8 57, .int .u8 48, .int .u8 48, .int .u8 48, .int .u8 48, .int .u8 48, .int .u8 48, .int .u8 90] : Array Value).size, (#[.int .u8 50, .int .u8 48, .int .u8 50, .int .u8 51, .int .u8 48, .int .u8 50, .int .u8 50, .int .u8 57, .int .u8 48, .int .u8 48, .int .u8 48, .int .u8 48, .int .u8 48, .int .u8 48, .int .u8 90] : Array Value).size + 1)) = wm := ⟨_, rfl⟩
  rw [hwm] at cv
  have BM : Hid (Bs wm (some ⟨M, 0, none⟩) 15 15 [50, 48, 50, 51, 48, 50, 50, 57, 48, 48, 48, 48, 48, 48, 90]) := by
    rw [← hwm]
    exact bs_mark (bs_lit_at (w := w3) (e := 5) (cs := #[.int .u8 50, .int .u8 48, .int .u8 50, .int .u8 51, .int .u8 48, .int .u8 50, .int .u8 50, .int .u8 57, .int .u8 48, .int .u8 48, .int .u8 48, .int .u8 48, .int .u8 48, .int .u8 48, .int .u8 90]) (n := 15) hM rfl rfl (by decide))
  have QM : Hid (Below w.heap.size w wm) := by rw [← hwm]; exact bal Q3.out _
  have KM : Hid (Blk wm A 23 #[.int .i64 2000, .int .i64 1, .int .i64 1, .int .i64 0, .int .i64 0, .int .i64 0]) := by rw [← hwm]; exact K3.out.alloc _
  have B4M : Hid (Bs wm a2 13 c2 [48, 48, 48, 49, 48, 49, 48, 48, 48, 48, 48, 48, 90]) := by rw [← hwm]; exact B3.out.alloc _
  clear hwm
  go_wp2_with fail
  try (rw [cv]; simp only [Result.andThen]; rw [Oper.upon_value]; go_wp2_with fail)
  clear cv
  with_reducible refine (H3.out _ _ BM.out QM.out).mono ?_
  rintro e w4 ⟨rfl, q⟩
  have K4 := Lib.hid (KM.out.below q KM.out.lt)
  have Q4 := Lib.hid (bthen QM.out q)
  have B4 := Lib.hid (B4M.out.below q)
  clear q hM
  obtain ⟨z0, z1, z2, z3, z4, z5⟩ := K4.out.cells6
  have zl := K4.out.lt
  go_wp2_with fail
  with_reducible refine (H4.out _ (bal Q4.out _)).mono ?_
  rintro e w5 ⟨rfl, q⟩
  have K5 := Lib.hid ((K4.out.alloc _).below q (K4.out.alloc _).lt)
  have Q5 := Lib.hid (bthen (bal Q4.out _) q)
  have B5 := Lib.hid ((B4.out.alloc _).below q)
  clear q z0 z1 z2 z3 z4 z5 zl
  go_wp2_with fail
  with_reducible refine (H5.out _ Q5.out).mono ?_
  rintro e w6 ⟨rfl, q⟩
  have K6 := Lib.hid (K5.out.below q K5.out.lt)
  have Q6 := Lib.hid (bthen Q5.out q)
  have B6 := Lib.hid (B5.out.below q)
  clear q
  obtain ⟨z0, z1, z2, z3, z4, z5⟩ := K6.out.cells6
  have zl := K6.out.lt
  have c1 := B6.out.conv (P := Tryd.prog) (dst := 9) Tryd.underlying25 Tryd.underlying5 Tryd.underlying9
  go_wp2_with fail
  with_reducible refine (H6.out _ Q6.out).mono ?_
  rintro e w7 ⟨rfl, q⟩
  have Q7 := Lib.hid (bthen Q6.out q)
  clear q
  go_wp2_with fail
  go_ret
  exact ⟨rfl, Q7.out⟩
end Go.Proofs.YtneeddbonhiflaaDoor
