/-
  The walk of the law TlvPrefix.
-/
import Derived.Test.YtepdgaokaneflaaAwakeTlv
import Derived.Test.YtepdgaokaneflaaTlvMath
namespace Go.Proofs.Ytepdgaokaneflaa.tlvPrefix
open Go.RowKit

theorem two {W : World} {g : Nat} {t : TypeId} {x y : Value} (h : Blk W g t #[x, y]) : W.cell? ⟨g, 0, none⟩ = some x ∧ W.cell? ⟨g, 1, none⟩ = some y ∧ g < W.heap.size := ⟨h.cell 0, h.cell 1, h.lt⟩
theorem three {W : World} {g : Nat} {t : TypeId} {x y z : Value} (h : Blk W g t #[x, y, z]) : W.cell? ⟨g, 0, none⟩ = some x ∧ W.cell? ⟨g, 1, none⟩ = some y ∧ W.cell? ⟨g, 2, none⟩ = some z ∧ g < W.heap.size := ⟨h.cell 0, h.cell 1, h.cell 2, h.lt⟩

theorem encode_some (c n : Int) (k : Bool) {w : World} {a : Option Addr} {m d : Nat} {l : List UInt8} (hx : Bs w a m d l) (hz : m ≤ 1000000) :
    Calls Try.prog 22 #[.int .i64 c, .bool k, .int .i64 n, .slice a m d] w fun e w' => ∃ (a' : Option Addr) (m' d' : Nat) (z : Int), e = .returned (.tuple #[.slice a' m' d', .int .i64 z]) ∧ Below w.heap.size w w' := by
  by_cases h : c < 0 ∨ 3 < c ∨ n < 0 ∨ 30 < n
  · exact (encode_bad h k _ w).mono fun e w' ⟨h1, h2⟩ => ⟨none, 0, 0, 9, h1, h2 ▸ Below.refl _ _⟩
  · obtain ⟨c', rfl⟩ : ∃ c' : Nat, c = c' := ⟨c.toNat, by omega⟩
    obtain ⟨n', rfl⟩ : ∃ n' : Nat, n = n' := ⟨n.toNat, by omega⟩
    exact (encode_ok (by omega) (by omega) k hx hz).mono fun e w' ⟨a', d', h1, _, h3⟩ => ⟨a', _, d', 0, h1, h3⟩

set_option maxRecDepth 100000 in
set_option maxHeartbeats 2000000 in
theorem walk {w : World} {c n c2 n2 : Int} {k k2 : Bool} {a0 a1 : Option Addr} {n0 c0 n1 c1 : Nat} {l0 l1 : List UInt8} (b0 : Bs w a0 n0 c0 l0) (b1 : Bs w a1 n1 c1 l1) :
    Calls Try.prog 8 #[.agg #[.int .i64 c, .int .i64 n, .bool k], .agg #[.int .i64 c2, .int .i64 n2, .bool k2], .agg #[.slice a0 n0 c0, .slice a1 n1 c1]] w fun e w' => e = .returned (.bool true) ∧ Below w.heap.size w w' := by
  have HA := Lib.hid (awakeTlv_any)
  have HB0 := Lib.hid b0
  have HB1 := Lib.hid b1
  have hl0 := Lib.hid b0.len
  have hl1 := Lib.hid b1.len
  clear b0 b1
  have W0 := Lib.hid (bal (bal (bal (Below.refl _ w) (.cells #[.int .i64 c, .int .i64 n, .bool k] 45)) (.cells #[.int .i64 c2, .int .i64 n2, .bool k2] 45)) (.cells #[.slice a0 n0 c0, .slice a1 n1 c1] 51))
  have S0 := Lib.hid (((Blk.new w 45 #[.int .i64 c, .int .i64 n, .bool k]).alloc (.cells #[.int .i64 c2, .int .i64 n2, .bool k2] 45)).alloc (.cells #[.slice a0 n0 c0, .slice a1 n1 c1] 51))
  have T0' := (Blk.new (w.alloc (.cells #[.int .i64 c, .int .i64 n, .bool k] 45)) 45 #[.int .i64 c2, .int .i64 n2, .bool k2]).alloc (.cells #[.slice a0 n0 c0, .slice a1 n1 c1] 51)
  have U0' := Blk.new ((w.alloc (.cells #[.int .i64 c, .int .i64 n, .bool k] 45)).alloc (.cells #[.int .i64 c2, .int .i64 n2, .bool k2] 45)) 51 #[.slice a0 n0 c0, .slice a1 n1 c1]
  simp only [World.size_alloc] at T0' U0'
  have T0 := Lib.hid T0'
  have U0 := Lib.hid U0'
  clear T0' U0'
  obtain ⟨u0, u1, ul⟩ := two U0.out
  by_cases hs : n0 ≤ 2000 ∧ n1 ≤ 2000
  · obtain ⟨h0, h1⟩ := hs
    go_enter Try.func8, Try.ntmps8
    go_wp2_with fail
    refine (HA.out _).mono ?_
    rintro e w1 ⟨rfl, q1⟩
    have S1 := Lib.hid (S0.out.below q1 (by simp; omega))
    have T1 := Lib.hid (T0.out.below q1 (by simp))
    have U1 := Lib.hid (U0.out.below q1 (by simp))
    have Q1 := Lib.hid (bthen W0.out q1)
    clear q1 S0 T0 U0 W0 u0 u1 ul
    obtain ⟨s0, s1, s2, sl⟩ := three S1.out
    obtain ⟨t0, t1, t2, tl⟩ := three T1.out
    obtain ⟨u0, u1, ul⟩ := two U1.out
    by_cases hb : c < 0 ∨ 3 < c ∨ n < 0 ∨ 30 < n
    · have H1 := Lib.hid (fun w s => encode_bad hb k s w)
      have H2 := Lib.hid (encode_some c2 n2 k2 (HB1.out.below Q1.out) (by omega))
      clear hb
      go_wp2_with fail
      refine (H1.out _ _).mono ?_
      rintro e w2 ⟨rfl, rfl⟩
      go_wp2_with fail
      refine H2.out.mono ?_
      rintro e w3 ⟨a3, m3, d3, z3, rfl, q⟩
      have Q3 := Lib.hid (bthen Q1.out q)
      clear q H1 H2
      go_wp2_with fail
      go_ret
      exact ⟨rfl, Q3.out⟩
    · obtain ⟨c', rfl⟩ : ∃ c' : Nat, c = c' := ⟨c.toNat, by omega⟩
      obtain ⟨n', rfl⟩ : ∃ n' : Nat, n = n' := ⟨n.toNat, by omega⟩
      have hc3 : c' ≤ 3 := by omega
      have hn30 : n' ≤ 30 := by omega
      have H1 := Lib.hid (encode_ok hc3 hn30 k (HB0.out.below Q1.out) (by omega))
      have hel := encB_len c' n' k l0
      obtain ⟨M, hM⟩ : ∃ M, Hid ((encB c' n' k l0).length = M) := ⟨_, rfl⟩
      have hM0 : 0 < M := by rw [← hM.out, hel]; omega
      rw [hM.out] at H1
      have hM1 : ((M : Int) == 0) = false := by simp; omega
      clear hb hel
      go_wp2_with fail
      refine H1.out.mono ?_
      rintro e w2 ⟨a2, d2, rfl, ho2, q⟩
      have A2 := Lib.hid ho2.bs
      have S2 := Lib.hid (S1.out.below q S1.out.lt)
      have T2 := Lib.hid (T1.out.below q T1.out.lt)
      have U2 := Lib.hid (U1.out.below q U1.out.lt)
      have Q2 := Lib.hid (bthen Q1.out q)
      clear q ho2 S1 T1 U1 Q1 s0 s1 s2 sl t0 t1 t2 tl u0 u1 ul H1
      obtain ⟨t0, t1, t2, tl⟩ := three T2.out
      obtain ⟨u0, u1, ul⟩ := two U2.out
      by_cases hb : c2 < 0 ∨ 3 < c2 ∨ n2 < 0 ∨ 30 < n2
      · have H2 := Lib.hid (fun w s => encode_bad hb k2 s w)
        clear hb
        go_wp2_with fail
        refine (H2.out _ _).mono ?_
        rintro e w3 ⟨rfl, rfl⟩
        clear H2
        go_wp2_with fail
        go_ret
        exact ⟨rfl, Q2.out⟩
      · obtain ⟨c2', rfl⟩ : ∃ c2' : Nat, c2 = c2' := ⟨c2.toNat, by omega⟩
        obtain ⟨n2', rfl⟩ : ∃ n2' : Nat, n2 = n2' := ⟨n2.toNat, by omega⟩
        have hc32 : c2' ≤ 3 := by omega
        have hn302 : n2' ≤ 30 := by omega
        have H2 := Lib.hid (encode_ok hc32 hn302 k2 (HB1.out.below Q2.out) (by omega))
        obtain ⟨M2, hM2⟩ : ∃ M2, Hid ((encB c2' n2' k2 l1).length = M2) := ⟨_, rfl⟩
        rw [hM2.out] at H2
        have hmin : min (M : Int) M2 = ((min M M2 : Nat) : Int) := by omega
        obtain ⟨m, hm⟩ : ∃ m, Hid (min M M2 = m) := ⟨_, rfl⟩
        have hm1 : m ≤ M := by have := hm.out; omega
        have hm2 : m ≤ M2 := by have := hm.out; omega
        rw [hm.out] at hmin
        have HT : Hid ((encB c' n' k l0).take m = (encB c2' n2' k2 l1).take m → c' = c2' ∧ n' = n2' ∧ k = k2 ∧ l0 = l1) := fun h => enc_take hc3 hn30 hc32 hn302 (by have := hl0.out; omega) (by have := hl1.out; omega) (by rw [hM.out, hM2.out]; exact hm.out.symm) h
        clear hb
        go_wp2_with fail
        refine H2.out.mono ?_
        rintro e w3 ⟨a3, d3, rfl, ho3, q⟩
        have A3 := Lib.hid (A2.out.below q)
        have B3 := Lib.hid ho3.bs
        have Q3 := Lib.hid (bthen Q2.out q)
        obtain ⟨s30, s31, s32, s3l⟩ := three (S2.out.below q S2.out.lt)
        obtain ⟨t30, t31, t32, t3l⟩ := three (T2.out.below q T2.out.lt)
        obtain ⟨u30, u31, u3l⟩ := two (U2.out.below q U2.out.lt)
        clear q ho3 S2 T2 U2 Q2 t0 t1 t2 tl u0 u1 ul H2 A2
        have X3 := Lib.hid (bs_take A3.out hm1)
        have Y3 := Lib.hid (bs_take B3.out hm2)
        have P3 := Lib.hid (fun j => bytes_any (X3.out.drewN j) (Y3.out.drewN j))
        have P4 := Lib.hid (fun j => bytes_any ((HB0.out.below Q3.out).drewN j) ((HB1.out.below Q3.out).drewN j))
        have hda := A3.out.2.1
        have hdb := B3.out.2.1
        have hmd : m ≤ d2 := by omega
        have hmd3 : m ≤ d3 := by omega
        have hmi1 : (m : Int) ≤ d2 := by omega
        have hmi2 : (m : Int) ≤ d3 := by omega
        have hmi0 : (0 : Int) ≤ m := by omega
        by_cases he : (encB c' n' k l0).take m = (encB c2' n2' k2 l1).take m
        · obtain ⟨rfl, rfl, rfl, rfl⟩ := HT.out he
          rw [he, eqB_self] at P3
          rw [eqB_self] at P4
          clear he HT hM hM2 hM0 hM1 hda hdb A3 B3 X3 Y3
          go_wp2_with fail
          go_quiet ((first | (go_at_call 17; exact quiet_left (P3.out _)) | (go_at_call 17; exact quiet_left (P4.out _)) | (go_at_call 17; exact quiet_add_left (P3.out _)) | (go_at_call 17; exact quiet_add_left (P4.out _))))
          go_wp2_with fail
          go_ret
          exact ⟨rfl, below_drewN Q3.out _⟩
        · have hef : eqB ((encB c' n' k l0).take m) ((encB c2' n2' k2 l1).take m) = false := by
            unfold eqB
            simpa using he
          rw [hef] at P3
          clear he HT hM hM2 hM0 hM1 hda hdb A3 B3 X3 Y3 hef
          go_wp2_with fail
          go_quiet ((first | (go_at_call 17; exact quiet_left (P3.out _)) | (go_at_call 17; exact quiet_add_left (P3.out _))))
          go_wp2_with fail
          go_ret
          exact ⟨rfl, below_drewN Q3.out _⟩
  · clear S0 T0
    go_enter Try.func8, Try.ntmps8
    go_wp2_with fail
    refine (HA.out _).mono ?_
    rintro e w1 ⟨rfl, q1⟩
    have U1 := Lib.hid (U0.out.below q1 (by simp))
    have Q1 := Lib.hid (bthen W0.out q1)
    clear q1 U0 W0 u0 u1 ul
    obtain ⟨u0, u1, ul⟩ := two U1.out
    go_wp2_with (first | (go_at_call 10; go_must (refine (HA.out _).mono ?_); rintro e w2 ⟨rfl, q2⟩) | fail)
    all_goals
      go_ret
      exact ⟨rfl, bthen Q1.out (by assumption)⟩
end Go.Proofs.Ytepdgaokaneflaa.tlvPrefix
