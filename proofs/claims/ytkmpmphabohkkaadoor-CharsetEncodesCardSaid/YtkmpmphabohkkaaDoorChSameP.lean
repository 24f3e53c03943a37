/-
  Contracts of the program's Len and Same.
-/
import Derived.Test.YtkmpmphabohkkaaDoorChEncP
import Derived.Test.YtkmpmphabohkkaaDoorChFoldQ
import Derived.Test.YtkmpmphabohkkaaDoorChSame
namespace Go.Proofs.YtkmpmphabohkkaaDoor
open Go.RowKit

set_option maxRecDepth 100000 in
theorem tlen_any (k : Int) (s : List UInt8) (hz : s.length ≤ 10000) (w : World) (hW : Wd w) :
    Calls Tryd.prog 14 #[tV k s] w fun e w' => e = .returned (.int .i64 (lenT k s)) ∧ Below w.heap.size w w' := by
  have HV := Lib.hid (fun w hw => tvalid_any k s hz w hw)
  unfold tV at *
  obtain ⟨T, hT⟩ : ∃ T, w.heap.size = T := ⟨_, rfl⟩
  have Z1 := Lib.hid (Blk.new w 23 #[.int .i64 k, .string ⟨s.toArray⟩])
  rw [hT] at Z1
  have Q1 := Lib.hid (bal (Below.refl w.heap.size w) (.cells #[.int .i64 k, .string ⟨s.toArray⟩] 23))
  rcases hv : vT k s with _ | _
  · have e : lenT k s = 0 := if_neg (by rw [hv]; decide)
    rw [e]
    rw [hv] at HV
    clear e hv
    go_enter Tryd.func14, Tryd.ntmps14
    go_wp2_with fail
    generalize w.alloc (.cells #[.int .i64 k, .string ⟨s.toArray⟩] 23) = w1 at *
    obtain ⟨z0, z1, zl, zf⟩ := Z1.out.cells2
    go_wp2_with fail
    with_reducible refine (HV.out _ (hW.below Q1.out)).mono ?_
    rintro e w2 ⟨rfl, q⟩
    have Q2 := Lib.hid (bthen Q1.out q)
    clear q
    go_wp2_with fail
    go_ret
    exact ⟨rfl, Q2.out⟩
  · have HC : Hid (∀ w, Calls Tryd.prog 34 #[.string ⟨s.toArray⟩] w fun e w' => e = .returned (.int .i64 (lenT k s)) ∧ Below w.heap.size w w') := by
      intro w
      refine (Tryd.utf8_RuneCountInString ⟨s.toArray⟩ w (by show s.length < _; omega)).mono ?_
      rintro e w' ⟨rfl, pos, rfl⟩
      obtain ⟨L, h1, h2, h3, h4, h5, h6⟩ := vT_some hv
      have e : lenT k s = L.length := by unfold lenT; rw [if_pos hv, h2]
      rw [e, ← h5, count_is h6]
      exact ⟨rfl, bal (Below.refl _ w) _⟩
    rw [hv] at HV
    generalize lenT k s = N at *
    clear hv
    go_enter Tryd.func14, Tryd.ntmps14
    go_wp2_with fail
    generalize w.alloc (.cells #[.int .i64 k, .string ⟨s.toArray⟩] 23) = w1 at *
    obtain ⟨z0, z1, zl, zf⟩ := Z1.out.cells2
    go_wp2_with fail
    with_reducible refine (HV.out _ (hW.below Q1.out)).mono ?_
    rintro e w2 ⟨rfl, q⟩
    have Q2 := Lib.hid (bthen Q1.out q)
    have Z2 := Lib.hid (Z1.out.below q Z1.out.lt)
    clear q z0 z1 zl zf
    obtain ⟨z0, z1, zl, zf⟩ := Z2.out.cells2
    go_wp2_with fail
    with_reducible refine (HC.out _).mono ?_
    rintro e w3 ⟨rfl, q⟩
    have Q3 := Lib.hid (bthen Q2.out q)
    clear q
    go_wp2_with fail
    go_ret
    exact ⟨rfl, Q3.out⟩

set_option maxRecDepth 100000 in
set_option maxHeartbeats 4000000 in
theorem same7_any (k : Int) (s : List UInt8) (m : Int) (t : List UInt8) (hs : s.length ≤ 10000) (ht : t.length ≤ 10000) (w : World) (hW : Wd w) :
    Calls Tryd.prog 25 #[tV k s, tV m t] w fun e w' => e = .returned (.bool (sameT k s m t)) ∧ Below w.heap.size w w' := by
  have HVA := Lib.hid (fun w hw => tvalid_any k s hs w hw)
  have HVB := Lib.hid (fun w hw => tvalid_any m t ht w hw)
  have HFA := Lib.hid (fun w => fold7_any s hs w)
  have HFB := Lib.hid (fun w => fold7_any t ht w)
  unfold tV at HVA HVB ⊢
  obtain ⟨A, hA⟩ : ∃ A, w.heap.size = A := ⟨_, rfl⟩
  have QB := Lib.hid (bal (bal (Below.refl w.heap.size w) (.cells #[.int .i64 k, .string ⟨s.toArray⟩] 23)) (.cells #[.int .i64 m, .string ⟨t.toArray⟩] 23))
  have ZA : Hid (Blk ((w.alloc (.cells #[.int .i64 k, .string ⟨s.toArray⟩] 23)).alloc (.cells #[.int .i64 m, .string ⟨t.toArray⟩] 23)) A 23 #[.int .i64 k, .string ⟨s.toArray⟩]) := by
    rw [← hA]
    exact (Blk.new _ _ _).alloc _
  have ZB : Hid (Blk ((w.alloc (.cells #[.int .i64 k, .string ⟨s.toArray⟩] 23)).alloc (.cells #[.int .i64 m, .string ⟨t.toArray⟩] 23)) (A + 1) 23 #[.int .i64 m, .string ⟨t.toArray⟩]) := by
    have h := Blk.new (w.alloc (.cells #[.int .i64 k, .string ⟨s.toArray⟩] 23)) 23 #[.int .i64 m, .string ⟨t.toArray⟩]
    rw [show (w.alloc (.cells #[.int .i64 k, .string ⟨s.toArray⟩] 23)).heap.size = A + 1 by simp [hA]] at h
    exact h
  obtain ⟨r, hr⟩ : ∃ r, sameT k s m t = r := ⟨_, rfl⟩
  rw [hr]
  unfold sameT at hr
  have HR := Lib.hid hr
  clear hr
  rcases ha : vT k s with _ | _
  · rw [ha] at HVA HR
    obtain rfl : r = false := HR.out.symm
    clear ha HR
    go_enter Tryd.func25, Tryd.ntmps25
    go_wp2_with fail
    generalize (w.alloc (.cells #[.int .i64 k, .string ⟨s.toArray⟩] 23)).alloc (.cells #[.int .i64 m, .string ⟨t.toArray⟩] 23) = w1 at *
    have Q1 := QB
    have X1 := ZA
    have Y1 := ZB
    clear QB ZA ZB hA
    obtain ⟨za, zb, _, _⟩ := X1.out.cells2
    obtain ⟨zc, zd, _, _⟩ := Y1.out.cells2
    first | go_region_with (first
       | (go_at_call 12; (with_reducible refine (HVA.out _ (hW.below Q1.out.drew)).mono ?_); rintro e w2 ⟨rfl, q⟩; have Q2 := Lib.hid (bthen Q1.out.drew q); have X2 := Lib.hid ((X1.out.drewN 1).below q (X1.out.drewN 1).lt); have Y2 := Lib.hid ((Y1.out.drewN 1).below q (Y1.out.drewN 1).lt); clear q; obtain ⟨ka, kb, _, _⟩ := X2.out.cells2; obtain ⟨kc, kd, _, _⟩ := Y2.out.cells2)) | fail
    all_goals
      go_wp2_with fail
      go_ret
      exact ⟨rfl, Q2.out⟩
  · rw [ha] at HVA HR
    clear ha
    rcases hb : vT m t with _ | _
    · rw [hb] at HVB HR
      obtain rfl : r = false := HR.out.symm
      clear hb HR
      go_enter Tryd.func25, Tryd.ntmps25
      go_wp2_with fail
      generalize (w.alloc (.cells #[.int .i64 k, .string ⟨s.toArray⟩] 23)).alloc (.cells #[.int .i64 m, .string ⟨t.toArray⟩] 23) = w1 at *
      have Q1 := QB
      have X1 := ZA
      have Y1 := ZB
      clear QB ZA ZB hA
      obtain ⟨za, zb, _, _⟩ := X1.out.cells2
      obtain ⟨zc, zd, _, _⟩ := Y1.out.cells2
      first | go_region_with (first
         | (go_at_call 12; (with_reducible refine (HVA.out _ (hW.below Q1.out.drew)).mono ?_); rintro e w2 ⟨rfl, q⟩; have Q2 := Lib.hid (bthen Q1.out.drew q); have X2 := Lib.hid ((X1.out.drewN 1).below q (X1.out.drewN 1).lt); have Y2 := Lib.hid ((Y1.out.drewN 1).below q (Y1.out.drewN 1).lt); clear q; obtain ⟨ka, kb, _, _⟩ := X2.out.cells2; obtain ⟨kc, kd, _, _⟩ := Y2.out.cells2)
         | (go_at_call 12; (with_reducible refine (HVB.out _ (hW.below Q2.out)).mono ?_); rintro e w3 ⟨rfl, q⟩; have Q3 := Lib.hid (bthen Q2.out q); have X3 := Lib.hid (X2.out.below q X2.out.lt); have Y3 := Lib.hid (Y2.out.below q Y2.out.lt); clear q; obtain ⟨ja, jb, _, _⟩ := X3.out.cells2; obtain ⟨jc, jd, _, _⟩ := Y3.out.cells2)) | fail
      all_goals
        go_wp2_with fail
        go_ret
        exact ⟨rfl, Q3.out⟩
    · rw [hb] at HVB HR
      clear hb
      have HR2 : Hid ((foldT s == foldT t) = r) := by rw [Hid, ← HR.out, Bool.eq_iff_iff, beq_iff_eq]; simp
      go_enter Tryd.func25, Tryd.ntmps25
      go_wp2_with fail
      generalize (w.alloc (.cells #[.int .i64 k, .string ⟨s.toArray⟩] 23)).alloc (.cells #[.int .i64 m, .string ⟨t.toArray⟩] 23) = w1 at *
      have Q1 := QB
      have X1 := ZA
      have Y1 := ZB
      clear QB ZA ZB hA
      obtain ⟨za, zb, _, _⟩ := X1.out.cells2
      obtain ⟨zc, zd, _, _⟩ := Y1.out.cells2
      first | go_region_held3 (fun w' => w'.cell? ⟨A, 0, none⟩ = some (.int .i64 k) ∧ w'.cell? ⟨A, 1, none⟩ = some (.string ⟨s.toArray⟩) ∧ w'.cell? ⟨A + 1, 0, none⟩ = some (.int .i64 m) ∧ w'.cell? ⟨A + 1, 1, none⟩ = some (.string ⟨t.toArray⟩)) (first | exact ⟨za, zb, zc, zd⟩ | exact ⟨ka, kb, kc, kd⟩ | exact ⟨ja, jb, jc, jd⟩ | exact ⟨ha, hb, hc, hd⟩ | exact ⟨ga, gb, gc, gd⟩ | assumption)
        (first
         | (go_at_call 12; (with_reducible refine (HVA.out _ (hW.below Q1.out.drew)).mono ?_); rintro e w2 ⟨rfl, q⟩; have Q2 := Lib.hid (bthen Q1.out.drew q); have X2 := Lib.hid ((X1.out.drewN 1).below q (X1.out.drewN 1).lt); have Y2 := Lib.hid ((Y1.out.drewN 1).below q (Y1.out.drewN 1).lt); clear q; obtain ⟨ka, kb, _, _⟩ := X2.out.cells2; obtain ⟨kc, kd, _, _⟩ := Y2.out.cells2)
         | (go_at_call 12; (with_reducible refine (HVB.out _ (hW.below Q2.out)).mono ?_); rintro e w3 ⟨rfl, q⟩; have Q3 := Lib.hid (bthen Q2.out q); have X3 := Lib.hid (X2.out.below q X2.out.lt); have Y3 := Lib.hid (Y2.out.below q Y2.out.lt); clear q; obtain ⟨ja, jb, _, _⟩ := X3.out.cells2; obtain ⟨jc, jd, _, _⟩ := Y3.out.cells2)
         | (go_at_call 20; (with_reducible refine (HFA.out _).mono ?_); rintro e w4 ⟨rfl, q⟩; have Q4 := Lib.hid (bthen Q3.out q); have X4 := Lib.hid (X3.out.below q X3.out.lt); have Y4 := Lib.hid (Y3.out.below q Y3.out.lt); clear q; obtain ⟨ha, hb, _, _⟩ := X4.out.cells2; obtain ⟨hc, hd, _, _⟩ := Y4.out.cells2)
         | (go_at_call 20; (with_reducible refine (HFB.out _).mono ?_); rintro e w5 ⟨rfl, q⟩; have Q5 := Lib.hid (bthen Q4.out q); have X5 := Lib.hid (X4.out.below q X4.out.lt); have Y5 := Lib.hid (Y4.out.below q Y4.out.lt); clear q; obtain ⟨ga, gb, _, _⟩ := X5.out.cells2; obtain ⟨gc, gd, _, _⟩ := Y5.out.cells2)) | fail
      all_goals
        go_wp2_with fail
        go_ret
        exact ⟨ret_bool7 HR2.out, Q5.out⟩

end Go.Proofs.YtkmpmphabohkkaaDoor
