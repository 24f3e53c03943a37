/-
  Contract of the reference implementation's ReadHeader.
-/
import Derived.Test.YtgccjdhkpgmnoaaHead
namespace Go.Proofs.Ytgccjdhkpgmnoaa
open Go.RowKit

set_option maxRecDepth 100000 in
set_option maxHeartbeats 4000000 in
theorem ref_readHeader_any {w : World} {a : Option Addr} {n c : Nat} {l : List UInt8} (hx : Bs w a n c l) :
    Calls Try.prog 55 #[.slice a n c] w fun e w' => e = .returned (.tuple #[hdV (rdHead l), erV (rdHead l).code (rdHead l).off]) ∧ Below w.heap.size w w' := by
  have HX := Lib.hid hx
  have hn : n ≤ 9223372036854775807 := by have := hx.2.1; have := hx.2.2.1; unfold maxLen at this; omega
  have hnc := hx.2.1
  have hl := hx.len
  clear hx
  rcases l with _ | ⟨x, r⟩
  · simp only [List.length_nil] at hl
    subst hl
    go_enter Try.func55, Try.ntmps55
    go_wp2
    exact bodyPost_ret (v := .tuple #[hdV (rdHead []), erV (rdHead []).code (rdHead []).off]) (by simp [results, Try.results55, go_sem, rdHead, hdV, erV]) rfl ⟨rfl, bal (bal (Below.refl _ _) _) _⟩
  · simp only [List.length_cons] at hl
    obtain ⟨b, off, _, rfl, hb, hc⟩ := HX.out.at_ (i := 0) (by omega)
    simp only [List.getElem_cons_zero, Nat.add_zero] at hc
    have hxb := byte_bd x
    have hn1 : 0 < n := by omega
    have hn2 : 0 < (n : Int) := by omega
    have hn3 : ((n : Int) == 0) = false := by simp; omega
    clear hl
    by_cases hid : idOk x = true
    · have HI := Lib.hid hid
      have HR := Lib.hid (fun w A m C (h : Bs w A m C r) => ref_readLength_any h)
      have hbd := rdLen_bd r
      by_cases hq : (rdLen r).code = 0
      · have HH := Lib.hid (rdHead_ok (r := r) hid hq)
        clear hid
        rw [hq, (rdLen_ok hq).2.2.2] at HR
        generalize (rdLen r).n = N at *
        generalize (rdLen r).size = S at *
        have hS : (S : Int) ≤ 5 := by omega
        clear hbd hq
        by_cases hc1 : c = 1
        · have hn10 : n = 1 := by omega
          have HD := Lib.hid (bs_drop_one HX.out hc1)
          subst hc1
          subst hn10
          go_enter Try.func55, Try.ntmps55
          go_wp2_with fail
          refine (ref_readIdentifier_ok _ HI.out).mono ?_
          rintro e w1 ⟨rfl, rfl⟩
          go_wp2_with fail
          refine (HR.out _ _ _ _ ((HD.out.alloc _).alloc _)).mono ?_
          rintro e w2 ⟨rfl, q⟩
          have Z2 := ((((Blk.new w 63 #[.int .i64 0, .int .i64 0, .bool false, .int .i64 0, .int .i64 0]).alloc (.cells #[.int .i64 0, .int .i64 0] 29))).below q (by simp; omega))
          have Z3 : Blk w2 (w.heap.size + 1) 29 #[.int .i64 0, .int .i64 0] := by simpa using (((Blk.new (w.alloc (.cells #[.int .i64 0, .int .i64 0, .bool false, .int .i64 0, .int .i64 0] 63)) 29 #[.int .i64 0, .int .i64 0])).below q (by simp))
          have z20 := Z2.cell 0
          have z21 := Z2.cell 1
          have z22 := Z2.cell 2
          have z23 := Z2.cell 3
          have z24 := Z2.cell 4
          have f2 := fun i => Z2.frozen i
          have z30 := Z3.cell 0
          have z31 := Z3.cell 1
          have f3 := fun i => Z3.frozen i
          have hl2 := Z2.lt
          have hl3 := Z3.lt
          simp only [List.getElem?_toArray, List.getElem?_cons_zero, List.getElem?_cons_succ] at z20 z21 z22 z23 z24 z30 z31
          have BB := Lib.hid (bthen (bal (bal (Below.refl _ w) _) _) q)
          clear Z2 Z3 q
          go_wp2_with fail
          exact bodyPost_ret (v := .tuple #[.agg #[.int .i64 (x.toNat / 64), .int .i64 (x.toNat % 32), .bool (x.toNat / 32 % 2 == 1), .int .i64 N, .int .i64 (1 + S)], .agg #[.int .i64 0, .int .i64 0]]) (by simp [results, Try.results55, go_sem, z20, z21, z22, z23, z24, z30, z31, hl2, hl3]) rfl ⟨by rw [hd_ok]; exact ret_rh HH.out, by repeat (first | with_reducible exact BB.out | with_reducible refine bal ?_ _ | with_reducible refine below_at ?_ _ _ | with_reducible refine below_at1 ?_ _ _)⟩
        · have HD := Lib.hid (bs_drop_more HX.out hc1)
          go_enter Try.func55, Try.ntmps55
          go_wp2_with fail
          refine (ref_readIdentifier_ok _ HI.out).mono ?_
          rintro e w1 ⟨rfl, rfl⟩
          go_wp2_with fail
          refine (HR.out _ _ _ _ ((HD.out.alloc _).alloc _)).mono ?_
          rintro e w2 ⟨rfl, q⟩
          have Z2 := ((((Blk.new w 63 #[.int .i64 0, .int .i64 0, .bool false, .int .i64 0, .int .i64 0]).alloc (.cells #[.int .i64 0, .int .i64 0] 29))).below q (by simp; omega))
          have Z3 : Blk w2 (w.heap.size + 1) 29 #[.int .i64 0, .int .i64 0] := by simpa using (((Blk.new (w.alloc (.cells #[.int .i64 0, .int .i64 0, .bool false, .int .i64 0, .int .i64 0] 63)) 29 #[.int .i64 0, .int .i64 0])).below q (by simp))
          have z20 := Z2.cell 0
          have z21 := Z2.cell 1
          have z22 := Z2.cell 2
          have z23 := Z2.cell 3
          have z24 := Z2.cell 4
          have f2 := fun i => Z2.frozen i
          have z30 := Z3.cell 0
          have z31 := Z3.cell 1
          have f3 := fun i => Z3.frozen i
          have hl2 := Z2.lt
          have hl3 := Z3.lt
          simp only [List.getElem?_toArray, List.getElem?_cons_zero, List.getElem?_cons_succ] at z20 z21 z22 z23 z24 z30 z31
          have BB := Lib.hid (bthen (bal (bal (Below.refl _ w) _) _) q)
          clear Z2 Z3 q
          go_wp2_with fail
          exact bodyPost_ret (v := .tuple #[.agg #[.int .i64 (x.toNat / 64), .int .i64 (x.toNat % 32), .bool (x.toNat / 32 % 2 == 1), .int .i64 N, .int .i64 (1 + S)], .agg #[.int .i64 0, .int .i64 0]]) (by simp [results, Try.results55, go_sem, z20, z21, z22, z23, z24, z30, z31, hl2, hl3]) rfl ⟨by rw [hd_ok]; exact ret_rh HH.out, by repeat (first | with_reducible exact BB.out | with_reducible refine bal ?_ _ | with_reducible refine below_at ?_ _ _ | with_reducible refine below_at1 ?_ _ _)⟩
      · have HH := Lib.hid (rdHead_len (r := r) hid hq)
        clear hid
        generalize (rdLen r).n = N at *
        generalize (rdLen r).size = S at *
        generalize (rdLen r).code = C at *
        generalize (rdLen r).off = O at *
        have hC : ((C : Int) == 0) = false := by simp; omega
        have hC2 : ((C : Int) != 0) = true := by simp; omega
        have hO : (O : Int) ≤ 4 := by omega
        clear hbd hq
        by_cases hc1 : c = 1
        · have hn10 : n = 1 := by omega
          have HD := Lib.hid (bs_drop_one HX.out hc1)
          subst hc1
          subst hn10
          go_enter Try.func55, Try.ntmps55
          go_wp2_with fail
          refine (ref_readIdentifier_ok _ HI.out).mono ?_
          rintro e w1 ⟨rfl, rfl⟩
          go_wp2_with fail
          refine (HR.out _ _ _ _ ((HD.out.alloc _).alloc _)).mono ?_
          rintro e w2 ⟨rfl, q⟩
          have Z2 := ((((Blk.new w 63 #[.int .i64 0, .int .i64 0, .bool false, .int .i64 0, .int .i64 0]).alloc (.cells #[.int .i64 0, .int .i64 0] 29))).below q (by simp; omega))
          have Z3 : Blk w2 (w.heap.size + 1) 29 #[.int .i64 0, .int .i64 0] := by simpa using (((Blk.new (w.alloc (.cells #[.int .i64 0, .int .i64 0, .bool false, .int .i64 0, .int .i64 0] 63)) 29 #[.int .i64 0, .int .i64 0])).below q (by simp))
          have z20 := Z2.cell 0
          have z21 := Z2.cell 1
          have z22 := Z2.cell 2
          have z23 := Z2.cell 3
          have z24 := Z2.cell 4
          have f2 := fun i => Z2.frozen i
          have z30 := Z3.cell 0
          have z31 := Z3.cell 1
          have f3 := fun i => Z3.frozen i
          have hl2 := Z2.lt
          have hl3 := Z3.lt
          simp only [List.getElem?_toArray, List.getElem?_cons_zero, List.getElem?_cons_succ] at z20 z21 z22 z23 z24 z30 z31
          have BB := Lib.hid (bthen (bal (bal (Below.refl _ w) _) _) q)
          clear Z2 Z3 q
          go_wp2_with fail
          go_region
          go_wp2_with fail
          exact bodyPost_ret (v := .tuple #[.agg #[.int .i64 0, .int .i64 0, .bool false, .int .i64 0, .int .i64 0], .agg #[.int .i64 C, .int .i64 (O + 1)]]) (by simp [results, Try.results55, go_sem, z20, z21, z22, z23, z24, z30, z31, hl2, hl3]) rfl ⟨by rw [show (O : Int) + 1 = ((O + 1 : Nat) : Int) from by omega]; exact ret_rh HH.out, by repeat (first | with_reducible exact BB.out | with_reducible refine below_draw ?_ | with_reducible refine bal ?_ _ | with_reducible refine below_at ?_ _ _ | with_reducible refine below_at1 ?_ _ _)⟩
        · have HD := Lib.hid (bs_drop_more HX.out hc1)
          go_enter Try.func55, Try.ntmps55
          go_wp2_with fail
          refine (ref_readIdentifier_ok _ HI.out).mono ?_
          rintro e w1 ⟨rfl, rfl⟩
          go_wp2_with fail
          refine (HR.out _ _ _ _ ((HD.out.alloc _).alloc _)).mono ?_
          rintro e w2 ⟨rfl, q⟩
          have Z2 := ((((Blk.new w 63 #[.int .i64 0, .int .i64 0, .bool false, .int .i64 0, .int .i64 0]).alloc (.cells #[.int .i64 0, .int .i64 0] 29))).below q (by simp; omega))
          have Z3 : Blk w2 (w.heap.size + 1) 29 #[.int .i64 0, .int .i64 0] := by simpa using (((Blk.new (w.alloc (.cells #[.int .i64 0, .int .i64 0, .bool false, .int .i64 0, .int .i64 0] 63)) 29 #[.int .i64 0, .int .i64 0])).below q (by simp))
          have z20 := Z2.cell 0
          have z21 := Z2.cell 1
          have z22 := Z2.cell 2
          have z23 := Z2.cell 3
          have z24 := Z2.cell 4
          have f2 := fun i => Z2.frozen i
          have z30 := Z3.cell 0
          have z31 := Z3.cell 1
          have f3 := fun i => Z3.frozen i
          have hl2 := Z2.lt
          have hl3 := Z3.lt
          simp only [List.getElem?_toArray, List.getElem?_cons_zero, List.getElem?_cons_succ] at z20 z21 z22 z23 z24 z30 z31
          have BB := Lib.hid (bthen (bal (bal (Below.refl _ w) _) _) q)
          clear Z2 Z3 q
          go_wp2_with fail
          go_region
          go_wp2_with fail
          exact bodyPost_ret (v := .tuple #[.agg #[.int .i64 0, .int .i64 0, .bool false, .int .i64 0, .int .i64 0], .agg #[.int .i64 C, .int .i64 (O + 1)]]) (by simp [results, Try.results55, go_sem, z20, z21, z22, z23, z24, z30, z31, hl2, hl3]) rfl ⟨by rw [show (O : Int) + 1 = ((O + 1 : Nat) : Int) from by omega]; exact ret_rh HH.out, by repeat (first | with_reducible exact BB.out | with_reducible refine below_draw ?_ | with_reducible refine bal ?_ _ | with_reducible refine below_at ?_ _ _ | with_reducible refine below_at1 ?_ _ _)⟩
    · have hid' : idOk x = false := by simpa using hid
      have HI := Lib.hid hid'
      have HH := Lib.hid (rdHead_tag (r := r) hid')
      clear hid hid'
      go_enter Try.func55, Try.ntmps55
      go_wp2_with fail
      refine (ref_readIdentifier_bad _ HI.out).mono ?_
      rintro e w1 ⟨rfl, rfl⟩
      go_wp2_with fail
      exact bodyPost_ret (v := .tuple #[.agg #[.int .i64 0, .int .i64 0, .bool false, .int .i64 0, .int .i64 0], .agg #[.int .i64 3, .int .i64 0]]) (by simp [results, Try.results55, go_sem]) rfl ⟨ret_rh HH.out, by repeat (first | with_reducible exact Below.refl _ _ | with_reducible refine bal ?_ _ | with_reducible refine below_at ?_ _ _ | with_reducible refine below_at1 ?_ _ _)⟩
end Go.Proofs.Ytgccjdhkpgmnoaa
