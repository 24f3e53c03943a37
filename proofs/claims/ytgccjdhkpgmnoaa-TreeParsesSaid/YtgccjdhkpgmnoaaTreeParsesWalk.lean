/-
  The walk of the law TreeParses.
-/
import Derived.Test.YtgccjdhkpgmnoaaAwakeTree
import Derived.Test.YtgccjdhkpgmnoaaTreeParse2
import Derived.Test.YtgccjdhkpgmnoaaWithin
namespace Go.Proofs.Ytgccjdhkpgmnoaa.treeParses
open Go.RowKit

set_option maxRecDepth 100000 in
set_option maxHeartbeats 2000000 in
theorem walk {w : World} {a0 : Option Addr} {n0 c0 : Nat} {l0 : List UInt8} (b0 : Bs w a0 n0 c0 l0) :
    Calls Try.prog 3 #[.slice a0 n0 c0] w fun e w' => e = .returned (.bool true) ∧ Below w.heap.size w w' := by
  have HA := Lib.hid (awakeTree_any)
  have HB0 := Lib.hid b0
  have hlen := b0.len
  have hcap := b0.2.1
  have hmx := b0.2.2.1
  unfold maxLen at hmx
  have hn9 : (n0 : Int) ≤ 9223372036854775807 := by omega
  by_cases h0 : n0 ≤ 1500
  · have HP1 := Lib.hid (fun w (h : Bs w a0 n0 c0 l0) => parse_any h (by omega))
    have HP2 := Lib.hid (fun w (h : Bs w a0 n0 c0 l0) => ref_parse_any h (by omega))
    have h0i : (n0 : Int) ≤ 1500 := by omega
    rcases hr : parseT 16 l0 with ⟨t, s⟩ | ⟨C, O⟩
    · rw [hr] at HP1 HP2
      unfold ParsePost erV at HP1 HP2
      simp only at HP1 HP2
      have HN := Lib.hid (fun (w : World) (R R' : Nat → Prop) (cs cs' : List Value) (h : NdCs w R cs t) (h' : NdCs w R' cs' t) => node_any _ t t w R R' cs cs' (Nat.le_refl _) h h')
      rw [eqT_self] at HN
      clear b0 hr hlen
      go_enter Try.func3, Try.ntmps3
      go_wp2_with fail
      refine (HA.out _).mono ?_
      rintro e w1 ⟨rfl, q1⟩
      have Q1 := Lib.hid q1
      have X1 := Lib.hid (HB0.out.below q1)
      clear q1 HB0 HA
      go_wp2_with fail
      refine (HP1.out _ X1.out).mono ?_
      rintro e w2 ⟨cs, rfl, hnd, q⟩
      cases t with
      | node c' n' k' l' ks' =>
      obtain ⟨a', m', d', ka', kn', kc', rfl, _⟩ := hnd.parts
      have U := Lib.hid (bal (bal (Below.refl _ w2) (.cells #[.int .i64 c', .int .i64 n', .bool k', .slice a' m' d', .slice ka' kn' kc'] 26)) (.cells #[.int .i64 0, .int .i64 0] 29))
      have X2 := Lib.hid ((X1.out.below q).below U.out)
      have ND2 := Lib.hid (hnd.below U.out)
      have Q2 := Lib.hid (bthen (bthen Q1.out q) U.out)
      have N2 := Lib.hid ((Blk.new w2 26 #[.int .i64 c', .int .i64 n', .bool k', .slice a' m' d', .slice ka' kn' kc']).alloc (.cells #[.int .i64 0, .int .i64 0] 29))
      have E2 : Hid (Blk ((w2.alloc (.cells #[.int .i64 c', .int .i64 n', .bool k', .slice a' m' d', .slice ka' kn' kc'] 26)).alloc (.cells #[.int .i64 0, .int .i64 0] 29)) (w2.heap.size + 1) 29 #[.int .i64 0, .int .i64 0]) := by
        have := Blk.new (w2.alloc (.cells #[.int .i64 c', .int .i64 n', .bool k', .slice a' m' d', .slice ka' kn' kc'] 26)) 29 #[.int .i64 0, .int .i64 0]
        show Blk _ _ _ _
        simpa using this
      clear q hnd X1 Q1 HP1
      go_wp2_with fail
      refine (HP2.out _ X2.out).mono ?_
      rintro e w3 ⟨cs3, rfl, hnd3, q⟩
      obtain ⟨a3, m3, d3, ka3, kn3, kc3, rfl, _⟩ := hnd3.parts
      have V := Lib.hid (bal (bal (Below.refl _ w3) (.cells #[.int .i64 c', .int .i64 n', .bool k', .slice a3 m3 d3, .slice ka3 kn3 kc3] 26)) (.cells #[.int .i64 0, .int .i64 0] 29))
      have ND3 := Lib.hid ((ND2.out.below q).below V.out)
      have NX3 := Lib.hid (hnd3.below V.out)
      have Q3 := Lib.hid (bthen (bthen Q2.out q) V.out)
      have N3 := Lib.hid (N2.out.below q N2.out.lt)
      have E3 := Lib.hid (E2.out.below q E2.out.lt)
      have E3' := Lib.hid ((E2.out.below q E2.out.lt).below V.out (E2.out.below q E2.out.lt).lt)
      obtain ⟨n0', n1', n2', n3', n4', nl⟩ := five N3.out
      have e0 := E3.out.cell 0
      have e1 := E3.out.cell 1
      have el := E3.out.lt
      simp only [List.getElem?_toArray, List.getElem?_cons_zero, List.getElem?_cons_succ] at e0 e1
      have HNN := Lib.hid (HN.out _ _ _ _ _ ND3.out NX3.out)
      clear q hnd3 X2 Q2 HP2 ND2 N2 E2 HN ND3 NX3
      go_wp2_with fail
      refine HNN.out.mono ?_
      rintro e w4 ⟨rfl, q⟩
      have Q4 := Lib.hid (bthen Q3.out q)
      have E4 := Lib.hid (E3'.out.below q E3'.out.lt)
      have e0 := E4.out.cell 0
      have e1 := E4.out.cell 1
      have el := E4.out.lt
      simp only [List.getElem?_toArray, List.getElem?_cons_zero, List.getElem?_cons_succ] at e0 e1
      have HW := Lib.hid (within_zero (n := (n0 : Int)) w4)
      clear q HNN n0' n1' n2' n3' n4' nl
      go_wp2_with fail
      refine HW.out.mono ?_
      rintro e w5 ⟨rfl, q⟩
      have Q5 := Lib.hid (bthen Q4.out q)
      go_wp2_with fail
      go_ret
      exact ⟨rfl, Q5.out⟩
    · rw [hr] at HP1 HP2
      obtain ⟨ho, hc1⟩ := parseT_err hr
      unfold ParsePost erV zeroN at HP1 HP2
      simp only at HP1 HP2
      have HN := Lib.hid (fun (w : World) => node_any 1 (.node 0 0 false [] []) (.node 0 0 false [] []) w (fun _ => True) (fun _ => True) [.int .i64 0, .int .i64 0, .bool false, .slice none 0 0, .slice none 0 0] [.int .i64 0, .int .i64 0, .bool false, .slice none 0 0, .slice none 0 0] (by unfold sizT sizTs; simp) (nd_zero w) (nd_zero w))
      rw [eqT_self] at HN
      have HW := Lib.hid (fun w => within_err (c := (C : Int)) (o := (O : Int)) (n := (n0 : Int)) (by omega) (by omega) (by omega) w)
      clear b0 hr hlen
      go_enter Try.func3, Try.ntmps3
      go_wp2_with fail
      refine (HA.out _).mono ?_
      rintro e w1 ⟨rfl, q1⟩
      have Q1 := Lib.hid q1
      have X1 := Lib.hid (HB0.out.below q1)
      clear q1 HB0 HA
      go_wp2_with fail
      refine (HP1.out _ X1.out).mono ?_
      rintro e w2 ⟨rfl, q⟩
      have U := Lib.hid (bal (bal (Below.refl _ w2) (.cells #[.int .i64 0, .int .i64 0, .bool false, .slice none 0 0, .slice none 0 0] 26)) (.cells #[.int .i64 C, .int .i64 O] 29))
      have X2 := Lib.hid ((X1.out.below q).below U.out)
      have Q2 := Lib.hid (bthen (bthen Q1.out q) U.out)
      have N2 := Lib.hid ((Blk.new w2 26 #[.int .i64 0, .int .i64 0, .bool false, .slice none 0 0, .slice none 0 0]).alloc (.cells #[.int .i64 C, .int .i64 O] 29))
      have E2 : Hid (Blk ((w2.alloc (.cells #[.int .i64 0, .int .i64 0, .bool false, .slice none 0 0, .slice none 0 0] 26)).alloc (.cells #[.int .i64 C, .int .i64 O] 29)) (w2.heap.size + 1) 29 #[.int .i64 C, .int .i64 O]) := by
        have := Blk.new (w2.alloc (.cells #[.int .i64 0, .int .i64 0, .bool false, .slice none 0 0, .slice none 0 0] 26)) 29 #[.int .i64 C, .int .i64 O]
        show Blk _ _ _ _
        simpa using this
      clear q X1 Q1 HP1
      go_wp2_with fail
      refine (HP2.out _ X2.out).mono ?_
      rintro e w3 ⟨rfl, q⟩
      have V := Lib.hid (bal (bal (Below.refl _ w3) (.cells #[.int .i64 0, .int .i64 0, .bool false, .slice none 0 0, .slice none 0 0] 26)) (.cells #[.int .i64 C, .int .i64 O] 29))
      have Q3 := Lib.hid (bthen (bthen Q2.out q) V.out)
      have N3 := Lib.hid (N2.out.below q N2.out.lt)
      have E3 := Lib.hid (E2.out.below q E2.out.lt)
      have E3' := Lib.hid ((E2.out.below q E2.out.lt).below V.out (E2.out.below q E2.out.lt).lt)
      obtain ⟨n0', n1', n2', n3', n4', nl⟩ := five N3.out
      have e0 := E3.out.cell 0
      have e1 := E3.out.cell 1
      have el := E3.out.lt
      simp only [List.getElem?_toArray, List.getElem?_cons_zero, List.getElem?_cons_succ] at e0 e1
      clear q X2 Q2 HP2 N2 E2
      go_wp2_with fail
      refine (HN.out _).mono ?_
      rintro e w4 ⟨rfl, q⟩
      have Q4 := Lib.hid (bthen Q3.out q)
      have E4 := Lib.hid (E3'.out.below q E3'.out.lt)
      have e0 := E4.out.cell 0
      have e1 := E4.out.cell 1
      have el := E4.out.lt
      simp only [List.getElem?_toArray, List.getElem?_cons_zero, List.getElem?_cons_succ] at e0 e1
      clear q HN n0' n1' n2' n3' n4' nl
      go_wp2_with fail
      refine (HW.out _).mono ?_
      rintro e w5 ⟨rfl, q⟩
      have Q5 := Lib.hid (bthen Q4.out q)
      go_wp2_with fail
      go_ret
      exact ⟨rfl, Q5.out⟩
  · have h0i : (1500 : Int) < n0 := by omega
    clear b0 HB0 hlen
    go_enter Try.func3, Try.ntmps3
    go_wp2_with fail
    refine (HA.out _).mono ?_
    rintro e w1 ⟨rfl, q1⟩
    have Q1 := Lib.hid q1
    clear q1
    go_wp2_with fail
    refine (HA.out _).mono ?_
    rintro e w2 ⟨rfl, q2⟩
    go_wp2_with fail
    go_ret
    exact ⟨rfl, bthen Q1.out q2⟩
end Go.Proofs.Ytgccjdhkpgmnoaa.treeParses
