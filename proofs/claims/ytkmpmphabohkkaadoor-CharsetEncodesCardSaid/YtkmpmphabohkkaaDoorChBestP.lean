/-
  Contract of the program's Best.
-/
import Derived.Test.YtkmpmphabohkkaaDoorChSameP
namespace Go.Proofs.YtkmpmphabohkkaaDoor
open Go.RowKit

set_option maxRecDepth 100000 in
set_option maxHeartbeats 2000000 in
theorem best_any (s : List UInt8) (hz : s.length ≤ 10000) (w : World) (hW : Wd w) :
    Calls Tryd.prog 18 #[.string ⟨s.toArray⟩] w fun e w' => e = .returned (.tuple #[tV (bstK s) (bstS s), .int .i64 (bstC s)]) ∧ Below w.heap.size w w' := by
  have HV1 := Lib.hid (fun w hw => tvalid_any 19 s hz w hw)
  have HV2 := Lib.hid (fun w hw => tvalid_any 12 s hz w hw)
  have HB1 := Lib.hid (fun h1 => bst_19 (s := s) h1)
  have HB2 := Lib.hid (fun h1 h2 => bst_12 (s := s) h1 h2)
  have HB3 := Lib.hid (fun h1 h2 => bst_no (s := s) h1 h2)
  unfold tV at *
  generalize bstK s = K at *
  generalize bstS s = S at *
  generalize bstC s = C at *
  generalize vT 19 s = V1 at *
  generalize vT 12 s = V2 at *
  obtain ⟨P, hP⟩ : ∃ P, w.heap.size = P := ⟨_, rfl⟩
  have Q1 := Lib.hid (bal (bal (Below.refl w.heap.size w) (.cells #[.int .i64 0, .string ⟨#[]⟩] 23)) (.cells #[.int .i64 19, .int .i64 12] 3))
  have Z1 : Hid (Blk ((w.alloc (.cells #[.int .i64 0, .string ⟨#[]⟩] 23)).alloc (.cells #[.int .i64 19, .int .i64 12] 3)) P 23 #[.int .i64 0, .string ⟨#[]⟩]) := by rw [← hP]; exact (Blk.new _ _ _).alloc _
  have L1 : Hid (Blk ((w.alloc (.cells #[.int .i64 0, .string ⟨#[]⟩] 23)).alloc (.cells #[.int .i64 19, .int .i64 12] 3)) (P + 1) 3 #[.int .i64 19, .int .i64 12]) := by
    have h := Blk.new (w.alloc (.cells #[.int .i64 0, .string ⟨#[]⟩] 23)) 3 #[.int .i64 19, .int .i64 12]
    rw [show (w.alloc (.cells #[.int .i64 0, .string ⟨#[]⟩] 23)).heap.size = P + 1 by simp [hP]] at h
    exact h
  go_enter Tryd.func18, Tryd.ntmps18
  go_wp2_with fail
  generalize (w.alloc (.cells #[.int .i64 0, .string ⟨#[]⟩] 23)).alloc (.cells #[.int .i64 19, .int .i64 12] 3) = w1 at *
  have HP : Hid (w.heap.size = P) := hP
  clear hP
  go_loopw [9] (fun i wr => ∃ j : Nat, j ≤ 2 ∧ i = .int .i64 j ∧ (1 ≤ j → V1 = false) ∧ (2 ≤ j → V2 = false) ∧ Blk wr P 23 #[.int .i64 0, .string ⟨#[]⟩] ∧ Blk wr (P + 1) 3 #[.int .i64 19, .int .i64 12] ∧ Below w.heap.size w wr) (fun i _ => (2 - intOf i).toNat)
  case atStart => exact ⟨0, by omega, rfl, fun h => absurd h (by omega), fun h => absurd h (by omega), Z1.out, L1.out, Q1.out⟩
  case round =>
    obtain ⟨j, hj, rfl, hv1, hv2, hz1, hl1, hq⟩ := hrel
    have Z2 := Lib.hid hz1
    have L2 := Lib.hid hl1
    have Q2 := Lib.hid hq
    obtain ⟨l0, l1, ll, lf⟩ := L2.out.cells2
    clear hz1 hl1 hq Z1 L1 Q1
    rcases (by omega : j = 0 ∨ j = 1 ∨ j = 2) with rfl | rfl | rfl
    · obtain ⟨H, hH⟩ : ∃ H, wr.heap.size = H := ⟨_, rfl⟩
      have T3 := Lib.hid (Blk.new wr 23 #[.int .i64 19, .string ⟨s.toArray⟩])
      rw [hH] at T3
      have Z3 := Lib.hid (Z2.out.alloc (.cells #[.int .i64 19, .string ⟨s.toArray⟩] 23))
      have L3 := Lib.hid (L2.out.alloc (.cells #[.int .i64 19, .string ⟨s.toArray⟩] 23))
      have Q3 := Lib.hid (bal Q2.out (.cells #[.int .i64 19, .string ⟨s.toArray⟩] 23))
      have zlH : P < H := by rw [← hH]; exact Z2.out.lt
      go_wp2_with fail
      generalize wr.alloc (.cells #[.int .i64 19, .string ⟨s.toArray⟩] 23) = w3 at *
      clear l0 l1 ll lf
      obtain ⟨t0, t1, tl, tf⟩ := T3.out.cells2
      go_wp2_with fail
      with_reducible refine (HV1.out _ (hW.below Q3.out)).mono ?_
      rintro e w4 ⟨rfl, q⟩
      have Q4 := Lib.hid (bthen Q3.out q)
      have Z4 := Lib.hid (Z3.out.below q Z3.out.lt)
      have L4 := Lib.hid (L3.out.below q L3.out.lt)
      have T4 := Lib.hid (T3.out.below q T3.out.lt)
      clear q t0 t1 tl tf
      obtain ⟨t0, t1, tl, tf⟩ := T4.out.cells2
      obtain ⟨z0, z1, zl, zf⟩ := Z4.out.cells2
      rcases V1 with _ | _
      · go_wp2_with fail
        go_roundw
        case rel => exact ⟨1, by omega, by go_num, fun _ => by first | rfl | trivial, fun h => absurd h (by omega), Z4.out, L4.out, Q4.out⟩
        case measure => simp [intOf]
      · obtain ⟨rfl, rfl, rfl⟩ := HB1.out rfl
        have ZF := Lib.hid (Z4.out.two (.int .i64 19) (.string ⟨S.toArray⟩))
        have QF := Lib.hid ((Q4.out.setCell (p := ⟨P, 0, none⟩) (Nat.le_of_eq HP.out) (.int .i64 19)).setCell (p := ⟨P, 1, none⟩) (Nat.le_of_eq HP.out) (.string ⟨S.toArray⟩))
        go_wp2_with fail
        generalize (World.setCell _ ⟨P, 1, none⟩ _) = w5 at *
        obtain ⟨y0, y1, _, _⟩ := ZF.out.cells2
        exact bodyPost_ret (v := .tuple #[.agg #[.int .i64 19, .string ⟨S.toArray⟩], .int .i64 0]) (by simp [results, Tryd.results18, go_sem, y0, y1]) rfl ⟨rfl, QF.out⟩
    · obtain ⟨H, hH⟩ : ∃ H, wr.heap.size = H := ⟨_, rfl⟩
      have T3 := Lib.hid (Blk.new wr 23 #[.int .i64 12, .string ⟨s.toArray⟩])
      rw [hH] at T3
      have Z3 := Lib.hid (Z2.out.alloc (.cells #[.int .i64 12, .string ⟨s.toArray⟩] 23))
      have L3 := Lib.hid (L2.out.alloc (.cells #[.int .i64 12, .string ⟨s.toArray⟩] 23))
      have Q3 := Lib.hid (bal Q2.out (.cells #[.int .i64 12, .string ⟨s.toArray⟩] 23))
      have zlH : P < H := by rw [← hH]; exact Z2.out.lt
      go_wp2_with fail
      generalize wr.alloc (.cells #[.int .i64 12, .string ⟨s.toArray⟩] 23) = w3 at *
      clear l0 l1 ll lf
      obtain ⟨t0, t1, tl, tf⟩ := T3.out.cells2
      go_wp2_with fail
      with_reducible refine (HV2.out _ (hW.below Q3.out)).mono ?_
      rintro e w4 ⟨rfl, q⟩
      have Q4 := Lib.hid (bthen Q3.out q)
      have Z4 := Lib.hid (Z3.out.below q Z3.out.lt)
      have L4 := Lib.hid (L3.out.below q L3.out.lt)
      have T4 := Lib.hid (T3.out.below q T3.out.lt)
      clear q t0 t1 tl tf
      obtain ⟨t0, t1, tl, tf⟩ := T4.out.cells2
      obtain ⟨z0, z1, zl, zf⟩ := Z4.out.cells2
      rcases V2 with _ | _
      · go_wp2_with fail
        go_roundw
        case rel => exact ⟨2, by omega, by go_num, fun _ => hv1 (by omega), fun _ => by first | rfl | trivial, Z4.out, L4.out, Q4.out⟩
        case measure => simp [intOf]
      · obtain rfl := hv1 (by omega)
        obtain ⟨rfl, rfl, rfl⟩ := HB2.out rfl rfl
        have ZF := Lib.hid (Z4.out.two (.int .i64 12) (.string ⟨S.toArray⟩))
        have QF := Lib.hid ((Q4.out.setCell (p := ⟨P, 0, none⟩) (Nat.le_of_eq HP.out) (.int .i64 12)).setCell (p := ⟨P, 1, none⟩) (Nat.le_of_eq HP.out) (.string ⟨S.toArray⟩))
        go_wp2_with fail
        generalize (World.setCell _ ⟨P, 1, none⟩ _) = w5 at *
        obtain ⟨y0, y1, _, _⟩ := ZF.out.cells2
        exact bodyPost_ret (v := .tuple #[.agg #[.int .i64 12, .string ⟨S.toArray⟩], .int .i64 0]) (by simp [results, Tryd.results18, go_sem, y0, y1]) rfl ⟨rfl, QF.out⟩
    · obtain rfl := hv1 (by omega)
      obtain rfl := hv2 (by omega)
      obtain ⟨rfl, rfl, rfl⟩ := HB3.out rfl rfl
      obtain ⟨z0, z1, zl, zf⟩ := Z2.out.cells2
      have ZF := Lib.hid (Z2.out.two (.int .i64 0) (.string ⟨#[]⟩))
      have QF := Lib.hid ((Q2.out.setCell (p := ⟨P, 0, none⟩) (Nat.le_of_eq HP.out) (.int .i64 0)).setCell (p := ⟨P, 1, none⟩) (Nat.le_of_eq HP.out) (.string ⟨#[]⟩))
      go_wp2_with fail
      generalize (World.setCell _ ⟨P, 1, none⟩ _) = w4 at *
      obtain ⟨y0, y1, _, _⟩ := ZF.out.cells2
      exact bodyPost_ret (v := .tuple #[.agg #[.int .i64 0, .string ⟨#[]⟩], .int .i64 8]) (by simp [results, Tryd.results18, go_sem, y0, y1]) rfl ⟨rfl, QF.out⟩
end Go.Proofs.YtkmpmphabohkkaaDoor
