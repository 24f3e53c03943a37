/-
  Contracts of the reference's Same and Best.
-/
import Derived.Test.YtkmpmphabohkkaaDoorChFold
namespace Go.Proofs.YtkmpmphabohkkaaDoor
open Go.RowKit

set_option maxRecDepth 100000 in
set_option maxHeartbeats 4000000 in
theorem ref_same_any (k : Int) (s : List UInt8) (m : Int) (t : List UInt8) (hs : s.length ≤ 100000) (ht : t.length ≤ 100000) (w : World) :
    Calls Tryd.prog 26 #[tV k s, tV m t] w fun e w' => e = .returned (.bool (sameT k s m t)) ∧ Below w.heap.size w w' := by
  have HVA := Lib.hid (fun w => ref_tvalid_any k s hs w)
  have HVB := Lib.hid (fun w => ref_tvalid_any m t ht w)
  have HFA := Lib.hid (fun w => ref_fold_any s hs w)
  have HFB := Lib.hid (fun w => ref_fold_any t ht w)
  unfold tV at HVA HVB ⊢
  obtain ⟨A, hA⟩ : ∃ A, w.heap.size = A := ⟨_, rfl⟩
  have QB := Lib.hid (bal (bal (Below.refl w.heap.size w) (.cells #[.int .i64 k, .string ⟨s.toArray⟩] 23)) (.cells #[.int .i64 m, .string ⟨t.toArray⟩] 23))
  have ZA : Hid (Blk ((w.alloc (.cells #[.int .i64 k, .string ⟨s.toArray⟩] 23)).alloc (.cells #[.int .i64 m, .string ⟨t.toArray⟩] 23)) A 23 #[.int .i64 k, .string ⟨s.toArray⟩]) := by
    rw [← hA]
    exact (Blk.new _ _ _).alloc _
  have ZB : Hid (Blk ((w.alloc (.cells #[.int .i64 k, .string ⟨s.toArray⟩] 23)).alloc (.cells #[.int .i64 m, .string ⟨t.toArray⟩] 23)) (A + 1) 23 #[.int .i64 m, .string ⟨t.toArray⟩]) := by
    have h := Blk.new (w.alloc (.cells #[.int .i64 k, .string ⟨s.toArray⟩] 23)) 23 #[.int .i64 m, .string ⟨t.toArray⟩]
    rw [show (w.alloc (.cells #[.int .i64 k, .string ⟨s.toArray⟩] 23)).heap.size = A + 1 by simp [hA]] at h
    exact h
  obtain ⟨r, hr⟩ : ∃ r, sameT k s m t = r := ⟨_, rfl⟩
  rw [hr]
  unfold sameT at hr
  have HR := Lib.hid hr
  clear hr
  rcases ha : vT k s with _ | _
  · rw [ha] at HVA HR
    obtain rfl : r = false := HR.out.symm
    clear ha HR
    go_enter Tryd.func26, Tryd.ntmps26
    go_wp2_with fail
    generalize (w.alloc (.cells #[.int .i64 k, .string ⟨s.toArray⟩] 23)).alloc (.cells #[.int .i64 m, .string ⟨t.toArray⟩] 23) = w1 at *
    have Q1 := QB
    have X1 := ZA
    have Y1 := ZB
    clear QB ZA ZB hA
    obtain ⟨za, zb, _, _⟩ := X1.out.cells2
    obtain ⟨zc, zd, _, _⟩ := Y1.out.cells2
    first | go_region_with (first
       | (go_at_call 13; (with_reducible refine (HVA.out _).mono ?_); rintro e w2 ⟨rfl, q⟩; have Q2 := Lib.hid (bthen Q1.out.drew q); have X2 := Lib.hid ((X1.out.drewN 1).below q (X1.out.drewN 1).lt); have Y2 := Lib.hid ((Y1.out.drewN 1).below q (Y1.out.drewN 1).lt); clear q; obtain ⟨ka, kb, _, _⟩ := X2.out.cells2; obtain ⟨kc, kd, _, _⟩ := Y2.out.cells2)) | fail
    all_goals
      go_wp2_with fail
      go_ret
      exact ⟨rfl, Q2.out⟩
  · rw [ha] at HVA HR
    clear ha
    rcases hb : vT m t with _ | _
    · rw [hb] at HVB HR
      obtain rfl : r = false := HR.out.symm
      clear hb HR
      go_enter Tryd.func26, Tryd.ntmps26
      go_wp2_with fail
      generalize (w.alloc (.cells #[.int .i64 k, .string ⟨s.toArray⟩] 23)).alloc (.cells #[.int .i64 m, .string ⟨t.toArray⟩] 23) = w1 at *
      have Q1 := QB
      have X1 := ZA
      have Y1 := ZB
      clear QB ZA ZB hA
      obtain ⟨za, zb, _, _⟩ := X1.out.cells2
      obtain ⟨zc, zd, _, _⟩ := Y1.out.cells2
      first | go_region_with (first
         | (go_at_call 13; (with_reducible refine (HVA.out _).mono ?_); rintro e w2 ⟨rfl, q⟩; have Q2 := Lib.hid (bthen Q1.out.drew q); have X2 := Lib.hid ((X1.out.drewN 1).below q (X1.out.drewN 1).lt); have Y2 := Lib.hid ((Y1.out.drewN 1).below q (Y1.out.drewN 1).lt); clear q; obtain ⟨ka, kb, _, _⟩ := X2.out.cells2; obtain ⟨kc, kd, _, _⟩ := Y2.out.cells2)
         | (go_at_call 13; (with_reducible refine (HVB.out _).mono ?_); rintro e w3 ⟨rfl, q⟩; have Q3 := Lib.hid (bthen Q2.out q); have X3 := Lib.hid (X2.out.below q X2.out.lt); have Y3 := Lib.hid (Y2.out.below q Y2.out.lt); clear q; obtain ⟨ja, jb, _, _⟩ := X3.out.cells2; obtain ⟨jc, jd, _, _⟩ := Y3.out.cells2)) | fail
      all_goals
        go_wp2_with fail
        go_ret
        exact ⟨rfl, Q3.out⟩
    · rw [hb] at HVB HR
      clear hb
      have HR2 : Hid ((foldT s == foldT t) = r) := by rw [Hid, ← HR.out, Bool.eq_iff_iff, beq_iff_eq]; simp
      go_enter Tryd.func26, Tryd.ntmps26
      go_wp2_with fail
      generalize (w.alloc (.cells #[.int .i64 k, .string ⟨s.toArray⟩] 23)).alloc (.cells #[.int .i64 m, .string ⟨t.toArray⟩] 23) = w1 at *
      have Q1 := QB
      have X1 := ZA
      have Y1 := ZB
      clear QB ZA ZB hA
      obtain ⟨za, zb, _, _⟩ := X1.out.cells2
      obtain ⟨zc, zd, _, _⟩ := Y1.out.cells2
      first | go_region_held3 (fun w' => w'.cell? ⟨A, 0, none⟩ = some (.int .i64 k) ∧ w'.cell? ⟨A, 1, none⟩ = some (.string ⟨s.toArray⟩) ∧ w'.cell? ⟨A + 1, 0, none⟩ = some (.int .i64 m) ∧ w'.cell? ⟨A + 1, 1, none⟩ = some (.string ⟨t.toArray⟩)) (first | exact ⟨za, zb, zc, zd⟩ | exact ⟨ka, kb, kc, kd⟩ | exact ⟨ja, jb, jc, jd⟩ | exact ⟨ha, hb, hc, hd⟩ | exact ⟨ga, gb, gc, gd⟩ | assumption)
        (first
         | (go_at_call 13; (with_reducible refine (HVA.out _).mono ?_); rintro e w2 ⟨rfl, q⟩; have Q2 := Lib.hid (bthen Q1.out.drew q); have X2 := Lib.hid ((X1.out.drewN 1).below q (X1.out.drewN 1).lt); have Y2 := Lib.hid ((Y1.out.drewN 1).below q (Y1.out.drewN 1).lt); clear q; obtain ⟨ka, kb, _, _⟩ := X2.out.cells2; obtain ⟨kc, kd, _, _⟩ := Y2.out.cells2)
         | (go_at_call 13; (with_reducible refine (HVB.out _).mono ?_); rintro e w3 ⟨rfl, q⟩; have Q3 := Lib.hid (bthen Q2.out q); have X3 := Lib.hid (X2.out.below q X2.out.lt); have Y3 := Lib.hid (Y2.out.below q Y2.out.lt); clear q; obtain ⟨ja, jb, _, _⟩ := X3.out.cells2; obtain ⟨jc, jd, _, _⟩ := Y3.out.cells2)
         | (go_at_call 21; (with_reducible refine (HFA.out _).mono ?_); rintro e w4 ⟨rfl, q⟩; have Q4 := Lib.hid (bthen Q3.out q); have X4 := Lib.hid (X3.out.below q X3.out.lt); have Y4 := Lib.hid (Y3.out.below q Y3.out.lt); clear q; obtain ⟨ha, hb, _, _⟩ := X4.out.cells2; obtain ⟨hc, hd, _, _⟩ := Y4.out.cells2)
         | (go_at_call 21; (with_reducible refine (HFB.out _).mono ?_); rintro e w5 ⟨rfl, q⟩; have Q5 := Lib.hid (bthen Q4.out q); have X5 := Lib.hid (X4.out.below q X4.out.lt); have Y5 := Lib.hid (Y4.out.below q Y4.out.lt); clear q; obtain ⟨ga, gb, _, _⟩ := X5.out.cells2; obtain ⟨gc, gd, _, _⟩ := Y5.out.cells2)) | fail
      all_goals
        go_wp2_with fail
        go_ret
        exact ⟨ret_bool7 HR2.out, Q5.out⟩

theorem bst_19 {s : List UInt8} (h : vT 19 s = true) : bstK s = 19 ∧ bstS s = s ∧ bstC s = 0 := ⟨if_pos h, if_pos (.inl h), if_pos (.inl h)⟩
theorem bst_12 {s : List UInt8} (h : vT 19 s = false) (h2 : vT 12 s = true) : bstK s = 12 ∧ bstS s = s ∧ bstC s = 0 := by
  refine ⟨?_, if_pos (.inr h2), if_pos (.inr h2)⟩
  unfold bstK
  rw [h, if_neg (by decide), if_pos h2]
theorem bst_no {s : List UInt8} (h : vT 19 s = false) (h2 : vT 12 s = false) : bstK s = 0 ∧ bstS s = [] ∧ bstC s = 8 := by
  unfold bstK bstS bstC
  rw [h, h2]
  exact ⟨rfl, rfl, rfl⟩

set_option maxRecDepth 100000 in
set_option maxHeartbeats 4000000 in
theorem ref_best_any (s : List UInt8) (hs : s.length ≤ 100000) (w : World) :
    Calls Tryd.prog 19 #[.string ⟨s.toArray⟩] w fun e w' => e = .returned (.tuple #[tV (bstK s) (bstS s), .int .i64 (bstC s)]) ∧ Below w.heap.size w w' := by
  have HV1 := Lib.hid (fun w => ref_tvalid_any 19 s hs w)
  have HV2 := Lib.hid (fun w => ref_tvalid_any 12 s hs w)
  unfold tV at HV1 HV2 ⊢
  obtain ⟨H, hH⟩ : ∃ H, w.heap.size = H := ⟨_, rfl⟩
  have QB := Lib.hid (bal (bal (Below.refl w.heap.size w) (.cells #[.int .i64 0, .string ⟨#[]⟩] 23)) (.cells #[.int .i64 19, .string ⟨s.toArray⟩] 23))
  have ZA : Hid (Blk ((w.alloc (.cells #[.int .i64 0, .string ⟨#[]⟩] 23)).alloc (.cells #[.int .i64 19, .string ⟨s.toArray⟩] 23)) H 23 #[.int .i64 0, .string ⟨#[]⟩]) := by
    rw [← hH]
    exact (Blk.new _ _ _).alloc _
  have ZB : Hid (Blk ((w.alloc (.cells #[.int .i64 0, .string ⟨#[]⟩] 23)).alloc (.cells #[.int .i64 19, .string ⟨s.toArray⟩] 23)) (H + 1) 23 #[.int .i64 19, .string ⟨s.toArray⟩]) := by
    have h := Blk.new (w.alloc (.cells #[.int .i64 0, .string ⟨#[]⟩] 23)) 23 #[.int .i64 19, .string ⟨s.toArray⟩]
    rw [show (w.alloc (.cells #[.int .i64 0, .string ⟨#[]⟩] 23)).heap.size = H + 1 by simp [hH]] at h
    exact h
  rcases h1 : vT 19 s with _ | _
  · rw [h1] at HV1
    rcases h2 : vT 12 s with _ | _
    · rw [h2] at HV2
      rw [(bst_no h1 h2).1, (bst_no h1 h2).2.1, (bst_no h1 h2).2.2]
      clear h1 h2
      go_enter Tryd.func19, Tryd.ntmps19
      go_wp2_with fail
      generalize (w.alloc (.cells #[.int .i64 0, .string ⟨#[]⟩] 23)).alloc (.cells #[.int .i64 19, .string ⟨s.toArray⟩] 23) = w1 at *
      with_reducible refine (HV1.out _).mono ?_
      rintro e w2 ⟨rfl, q⟩
      have Q2 := Lib.hid ((bthen QB.out q).setCell (p := ⟨H + 1, 0, none⟩) (by show w.heap.size ≤ H + 1; omega) (.int .i64 12))
      have X2 := Lib.hid ((ZA.out.below q ZA.out.lt).far (p := ⟨H + 1, 0, none⟩) (by show H ≠ H + 1; omega) (.int .i64 12))
      have YY := ZB.out.below q ZB.out.lt
      have Y2 : Hid (Blk (w2.setCell ⟨H + 1, 0, none⟩ (.int .i64 12)) (H + 1) 23 #[.int .i64 12, .string ⟨s.toArray⟩]) := by rw [Hid]; simpa using YY.set_ 0 (.int .i64 12)
      obtain ⟨b0, b1, bl, bf⟩ := YY.cells2
      clear q YY
      go_wp2_with fail
      clear b0 b1 bl bf
      generalize w2.setCell ⟨H + 1, 0, none⟩ (.int .i64 12) = w5 at *
      with_reducible refine (HV2.out _).mono ?_
      rintro e w3 ⟨rfl, q⟩
      have Q3 := Lib.hid (bthen Q2.out q)
      have X3 := Lib.hid (X2.out.below q X2.out.lt)
      have Y3 := Lib.hid (Y2.out.below q Y2.out.lt)
      clear q
      obtain ⟨a0, a1, al, af⟩ := X3.out.cells2
      have ZF := Lib.hid (X3.out.two (.int .i64 0) (.string ⟨#[]⟩))
      have QF := Lib.hid ((Q3.out.setCell (p := ⟨H, 0, none⟩) (Nat.le_of_eq hH) (.int .i64 0)).setCell (p := ⟨H, 1, none⟩) (Nat.le_of_eq hH) (.string ⟨#[]⟩))
      go_wp2_with fail
      generalize (World.setCell _ ⟨H, 1, none⟩ _) = w4 at *
      obtain ⟨y0, y1, _, _⟩ := ZF.out.cells2
      exact bodyPost_ret (v := .tuple #[.agg #[.int .i64 0, .string ⟨#[]⟩], .int .i64 8]) (by simp [results, Tryd.results19, go_sem, y0, y1]) rfl ⟨rfl, QF.out⟩
    · rw [h2] at HV2
      rw [(bst_12 h1 h2).1, (bst_12 h1 h2).2.1, (bst_12 h1 h2).2.2]
      clear h1 h2
      go_enter Tryd.func19, Tryd.ntmps19
      go_wp2_with fail
      generalize (w.alloc (.cells #[.int .i64 0, .string ⟨#[]⟩] 23)).alloc (.cells #[.int .i64 19, .string ⟨s.toArray⟩] 23) = w1 at *
      with_reducible refine (HV1.out _).mono ?_
      rintro e w2 ⟨rfl, q⟩
      have Q2 := Lib.hid ((bthen QB.out q).setCell (p := ⟨H + 1, 0, none⟩) (by show w.heap.size ≤ H + 1; omega) (.int .i64 12))
      have X2 := Lib.hid ((ZA.out.below q ZA.out.lt).far (p := ⟨H + 1, 0, none⟩) (by show H ≠ H + 1; omega) (.int .i64 12))
      have YY := ZB.out.below q ZB.out.lt
      have Y2 : Hid (Blk (w2.setCell ⟨H + 1, 0, none⟩ (.int .i64 12)) (H + 1) 23 #[.int .i64 12, .string ⟨s.toArray⟩]) := by rw [Hid]; simpa using YY.set_ 0 (.int .i64 12)
      obtain ⟨b0, b1, bl, bf⟩ := YY.cells2
      clear q YY
      go_wp2_with fail
      clear b0 b1 bl bf
      generalize w2.setCell ⟨H + 1, 0, none⟩ (.int .i64 12) = w5 at *
      with_reducible refine (HV2.out _).mono ?_
      rintro e w3 ⟨rfl, q⟩
      have Q3 := Lib.hid (bthen Q2.out q)
      have X3 := Lib.hid (X2.out.below q X2.out.lt)
      have Y3 := Lib.hid (Y2.out.below q Y2.out.lt)
      clear q
      obtain ⟨a0, a1, al, af⟩ := X3.out.cells2
      obtain ⟨b0, b1, bl, bf⟩ := Y3.out.cells2
      have ZF := Lib.hid (X3.out.two (.int .i64 12) (.string ⟨s.toArray⟩))
      have QF := Lib.hid ((Q3.out.setCell (p := ⟨H, 0, none⟩) (Nat.le_of_eq hH) (.int .i64 12)).setCell (p := ⟨H, 1, none⟩) (Nat.le_of_eq hH) (.string ⟨s.toArray⟩))
      go_wp2_with fail
      generalize (World.setCell _ ⟨H, 1, none⟩ _) = w4 at *
      obtain ⟨y0, y1, _, _⟩ := ZF.out.cells2
      exact bodyPost_ret (v := .tuple #[.agg #[.int .i64 12, .string ⟨s.toArray⟩], .int .i64 0]) (by simp [results, Tryd.results19, go_sem, y0, y1]) rfl ⟨rfl, QF.out⟩
  · rw [h1] at HV1
    rw [(bst_19 h1).1, (bst_19 h1).2.1, (bst_19 h1).2.2]
    clear h1
    go_enter Tryd.func19, Tryd.ntmps19
    go_wp2_with fail
    generalize (w.alloc (.cells #[.int .i64 0, .string ⟨#[]⟩] 23)).alloc (.cells #[.int .i64 19, .string ⟨s.toArray⟩] 23) = w1 at *
    with_reducible refine (HV1.out _).mono ?_
    rintro e w2 ⟨rfl, q⟩
    have Q2 := Lib.hid (bthen QB.out q)
    have X2 := Lib.hid (ZA.out.below q ZA.out.lt)
    have Y2 := Lib.hid (ZB.out.below q ZB.out.lt)
    clear q
    obtain ⟨a0, a1, al, af⟩ := X2.out.cells2
    obtain ⟨b0, b1, bl, bf⟩ := Y2.out.cells2
    have ZF := Lib.hid (X2.out.two (.int .i64 19) (.string ⟨s.toArray⟩))
    have QF := Lib.hid ((Q2.out.setCell (p := ⟨H, 0, none⟩) (Nat.le_of_eq hH) (.int .i64 19)).setCell (p := ⟨H, 1, none⟩) (Nat.le_of_eq hH) (.string ⟨s.toArray⟩))
    go_wp2_with fail
    generalize (World.setCell _ ⟨H, 1, none⟩ _) = w4 at *
    obtain ⟨y0, y1, _, _⟩ := ZF.out.cells2
    exact bodyPost_ret (v := .tuple #[.agg #[.int .i64 19, .string ⟨s.toArray⟩], .int .i64 0]) (by simp [results, Tryd.results19, go_sem, y0, y1]) rfl ⟨rfl, QF.out⟩
end Go.Proofs.YtkmpmphabohkkaaDoor
