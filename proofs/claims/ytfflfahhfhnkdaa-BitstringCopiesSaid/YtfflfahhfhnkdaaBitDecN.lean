/-
  Contract of DecodeNamed, of the program.
-/
import Derived.Test.YtfflfahhfhnkdaaBitEncN
import Derived.Test.YtfflfahhfhnkdaaBitAt
import Derived.Test.YtfflfahhfhnkdaaBitDec
namespace Go.Proofs.Ytfflfahhfhnkdaa
open Go.RowKit

def dnN (c : List UInt8) (m : Int) : Nat := (decNam c m).getD 0
def dnC (c : List UInt8) (m : Int) : Nat := if 1 ≤ m ∧ m ≤ 32 then (if (decNam c m).isSome = true then 0 else 6) else 9
theorem dn_out {c : List UInt8} {m : Int} (h : ¬ (1 ≤ m ∧ m ≤ 32)) : dnN c m = 0 ∧ dnC c m = 9 := by
  unfold dnN dnC
  rw [decNam_out h, if_neg h]
  exact ⟨rfl, rfl⟩
theorem dn_none {c : List UInt8} {m : Int} (h : 1 ≤ m ∧ m ≤ 32) (h2 : decNam c m = none) : dnN c m = 0 ∧ dnC c m = 6 := by
  unfold dnN dnC
  rw [h2, if_pos h]
  exact ⟨rfl, rfl⟩
theorem dn_some {c : List UInt8} {m : Int} {s : Nat} (h : 1 ≤ m ∧ m ≤ 32) (h2 : decNam c m = some s) : dnN c m = s ∧ dnC c m = 0 := by
  unfold dnN dnC
  rw [h2, if_pos h]
  exact ⟨rfl, rfl⟩
theorem decNam_bad {c : List UInt8} {m : Int} (h : insOk c = false) : decNam c m = none := by
  apply decNam_none
  unfold insOk at h
  rwa [Option.isSome_eq_false_iff, Option.isNone_iff_eq_none] at h
theorem ins_valid {c : List UInt8} (h : insOk c = true) : decBits c = some (insB c, insU c) ∧ vB (insB c) (insU c) = true := by
  rcases c with _ | ⟨x, r⟩
  · cases h
  · rw [(ins_cons x r).1] at h
    rw [decBits_cons, if_pos h]
    exact ⟨rfl, h⟩
/-- what DecodeNamed comes to, by the number of bits and the last one -/
theorem decNam_ok {c : List UInt8} {m N : Nat} (h1 : 1 ≤ m) (h2 : m ≤ 32) (h : insOk c = true) (hN : lenB (insB c) (insU c) = N) :
    decNam c m = if N ≤ m ∧ (N = 0 ∨ atB (insB c) (insU c) ((N : Int) - 1) = true) then some (setTo (fun i => atB (insB c) (insU c) i) N) else none := by
  obtain ⟨hd, hv⟩ := ins_valid h
  generalize insB c = l at *
  generalize insU c = u at *
  obtain ⟨hu0, hu7, hnil, _⟩ := vB_true.1 hv
  rw [lenB_valid hv] at hN
  have hN2 : 8 * l.length - u = N := by omega
  rw [decNam_of (by omega) hd, hN2, Int.toNat_natCast]
  have hset : setTo (bitL l) N = setTo (fun i => atB l u i) N := by
    apply setTo_congr
    intro i hi
    show _ = atB l u i
    unfold atB
    rw [lenB_valid hv, decide_eq_true (by omega), Int.toNat_natCast]
    rfl
  have hlast : (l = [] ∨ bitL l (N - 1) = true) ↔ (N = 0 ∨ atB l u ((N : Int) - 1) = true) := by
    by_cases hl : l = []
    · have : N = 0 := by subst hl; simp at hN2; omega
      simp [hl, this]
    · have h0 : N ≠ 0 := by have := List.length_pos_iff.2 hl; omega
      simp only [hl, h0, false_or]
      unfold atB
      rw [lenB_valid hv, decide_eq_true (by omega), show ((N : Int) - 1).toNat = N - 1 by omega]
      rfl
  have hc : (8 * l.length ≤ m + u ∧ (l = [] ∨ bitL l (N - 1) = true)) ↔ (N ≤ m ∧ (N = 0 ∨ atB l u ((N : Int) - 1) = true)) := and_congr (by omega) hlast
  rw [hset]
  simp only [hc]
theorem or_bit {a i : Nat} (h : a < 2 ^ i) (hi : i < 63) : bits BinOp.or IntKind.i64 (a : Int) ((2 ^ i : Nat) : Int) = ((a + 2 ^ i : Nat) : Int) := by
  have h1 : 2 ^ i < 2 ^ 63 := Nat.pow_lt_pow_right (by omega) hi
  rw [i64_or_nat _ _ (by omega) (by omega), Nat.or_comm, show 2 ^ i = 2 ^ i * 1 by omega, ← Nat.two_pow_add_eq_or_of_lt h]
  omega
theorem or_bit64 {a i : Nat} (h : a < 2 ^ i) (hi : i < 63) : bits BinOp.or IntKind.i64 (a : Int) (wrap64 ((2 : Int) ^ i)) = ((a + 2 ^ i : Nat) : Int) := by
  have h1 : 2 ^ i < 2 ^ 63 := Nat.pow_lt_pow_right (by omega) hi
  have e : wrap64 ((2 : Int) ^ i) = ((2 ^ i : Nat) : Int) := by
    rw [show (2 : Int) ^ i = ((2 ^ i : Nat) : Int) by simp]
    generalize 2 ^ i = p at *
    unfold wrap64
    omega
  rw [e]
  exact or_bit h hi

set_option maxRecDepth 100000 in
set_option maxHeartbeats 4000000 in
theorem decn_any {w : World} {a : Option Addr} {n c : Nat} {l : List UInt8} (h : Bs w a n c l) (hz : n ≤ 1000000) (m : Int) :
    Calls Try.prog 24 #[.slice a n c, .int .i64 m] w fun e w' => e = .returned (.tuple #[.int .i64 (dnN l m), .int .i64 (dnC l m)]) ∧ Below w.heap.size w w' := by
  have HN := Lib.hid (fun w => namable_any m w)
  by_cases hm : 1 ≤ m ∧ m ≤ 32
  · rw [decide_eq_true hm] at HN
    have HI := Lib.hid (inside_any h)
    have hil : (insB l).length ≤ 1000000 := by
      have := h.len
      have : (insB l).length ≤ l.length := by unfold insB; simp
      omega
    have HLN := Lib.hid (fun (w : World) a c (h : Bs w a (insB l).length c (insB l)) => blen_any h (insU l) hil)
    have HRD := Lib.hid (fun (w : World) a c (h : Bs w a (insB l).length c (insB l)) => reader_any h (insU l) hil)
    have HR1 := Lib.hid (fun (w : World) a c gc gb (h : Bs w a (insB l).length c (insB l)) hc hb i => rd1_any (w := w) (gc := gc) (gb := gb) (u := insU l) h hc hb hil i)
    unfold bV at HI HLN HRD
    unfold rdF at HRD
    obtain ⟨M, rfl⟩ : ∃ M : Nat, m = M := ⟨m.toNat, by omega⟩
    obtain ⟨hm1, hm2⟩ := hm
    have HD := Lib.hid (fun N h hN => decNam_ok (c := l) (m := M) (N := N) (by omega) (by omega) h hN)
    have HBAD := Lib.hid (fun h => dn_none (m := (M : Int)) ⟨hm1, hm2⟩ (decNam_bad (c := l) h))
    have HNO := Lib.hid (fun h => dn_none (c := l) (m := (M : Int)) ⟨hm1, hm2⟩ h)
    have HYES := Lib.hid (fun s h => dn_some (c := l) (m := (M : Int)) (s := s) ⟨hm1, hm2⟩ h)
    obtain ⟨hN0, _⟩ := lenB_bd (insB l) (insU l)
    obtain ⟨N, hN⟩ : ∃ N : Nat, lenB (insB l) (insU l) = N := ⟨(lenB (insB l) (insU l)).toNat, by omega⟩
    have hN3 : N ≤ 8000000 := by have := (lenB_bd (insB l) (insU l)).2; omega
    have hN4 : (N : Int) ≤ 8000000 := by omega
    rw [hN] at HLN HRD HR1
    have HNN := Lib.hid hN
    clear hN hN0 h
    rcases hok : insOk l with _ | _
    · rw [(HBAD.out hok).1, (HBAD.out hok).2]
      rw [hok] at HI
      go_enter Try.func24, Try.ntmps24
      go_wp2_with fail
      with_reducible refine (HN.out _).mono ?_
      rintro e w1 ⟨rfl, rfl⟩
      go_wp2_with fail
      with_reducible refine HI.out.mono ?_
      rintro e w1 ⟨a1, c1, rfl, hx, q⟩
      have HL2 := Lib.hid (HLN.out _ _ _ (hx.alloc (.cells #[.slice a1 (insB l).length c1, .int .i64 (insU l)] 24)))
      have Q1 := Lib.hid (bal q (.cells #[.slice a1 (insB l).length c1, .int .i64 (insU l)] 24))
      clear hx q
      go_wp2_with fail
      with_reducible refine HL2.out.mono ?_
      rintro e w2 ⟨rfl, q⟩
      have Q2 := Lib.hid (bthen Q1.out q)
      clear q
      go_wp2_with fail
      go_ret2
      exact ⟨rfl, Q2.out⟩
    · have HD2 := HD.out N hok HNN.out
      rw [hok] at HI
      by_cases hNM : N ≤ M
      · rcases N with _ | t
        · have HS := Lib.hid (HYES.out 0 (by rw [HD2, if_pos ⟨by omega, .inl rfl⟩]; rfl))
          rw [HS.out.1, HS.out.2]
          clear HD2 hok
          go_enter Try.func24, Try.ntmps24
          go_wp2_with fail
          with_reducible refine (HN.out _).mono ?_
          rintro e w1 ⟨rfl, rfl⟩
          go_wp2_with fail
          with_reducible refine HI.out.mono ?_
          rintro e w1 ⟨a1, c1, rfl, hx, q⟩
          have X1 := Lib.hid (hx.alloc (.cells #[.slice a1 (insB l).length c1, .int .i64 (insU l)] 24))
          have HL2 := Lib.hid (HLN.out _ _ _ X1.out)
          have Q1 := Lib.hid (bal q (.cells #[.slice a1 (insB l).length c1, .int .i64 (insU l)] 24))
          have Z1 := Lib.hid (Blk.new w1 24 #[.slice a1 (insB l).length c1, .int .i64 (insU l)])
          obtain ⟨T, hT⟩ : ∃ T, w1.heap.size = T := ⟨_, rfl⟩
          rw [hT] at Z1
          clear hx q
          go_wp2_with fail
          with_reducible refine HL2.out.mono ?_
          rintro e w2 ⟨rfl, q⟩
          have Q2 := Lib.hid (bthen Q1.out q)
          have X2 := Lib.hid (X1.out.below q)
          have Z2 := Lib.hid (Z1.out.below q (by simp; omega))
          clear q X1 Z1 HL2 Q1
          obtain ⟨z0, z1, zl, zf⟩ := Z2.out.cells2
          have HR2 := Lib.hid (HRD.out _ _ _ X2.out)
          go_wp2_with fail
          with_reducible refine HR2.out.mono ?_
          rintro e w3 ⟨gc, gb, rfl, hgc, hgb, _, _, q⟩
          have Q3 := Lib.hid (bthen Q2.out q)
          have X3 := Lib.hid (X2.out.below q)
          have C3 := Lib.hid hgc
          have G3 := Lib.hid hgb
          clear q hgc hgb HR2 X2 Z2 Q2 z0 z1 zl zf hT
          go_wp2_with fail
          go_loop [10, 41] (fun s i => s = .int .i64 0 ∧ i = .int .i64 0) (fun _ _ => 0)
          case atStart => exact ⟨rfl, rfl⟩
          case round =>
            obtain ⟨rfl, rfl⟩ := hrel
            go_wp2_with fail
            go_ret2
            exact ⟨rfl, Q3.out⟩
        · have hNM2 : (t : Int) + 1 ≤ M := by omega
          have hNM3 : ¬ (M : Int) < (t : Int) + 1 := by omega
          have ht0 : (0 : Int) < (t : Int) + 1 := by omega
          have ht32 : (t : Int) + 1 ≤ 32 := by omega
          have hcast : (((t + 1 : Nat) : Int) - 1) = (t : Int) := by omega
          rw [hcast] at HD2
          clear hN3 hN4 hcast
          rcases hlast : atB (insB l) (insU l) (t : Int) with _ | _
          · have HS := Lib.hid (HNO.out (by rw [HD2, if_neg (by rw [hlast]; simp)]))
            rw [HS.out.1, HS.out.2]
            have HR3 := Lib.hid (fun (w : World) a c gc gb h hc hb => HR1.out w a c gc gb h hc hb (t : Int))
            rw [hlast] at HR3
            clear HD2 hok hlast hNM
            go_enter Try.func24, Try.ntmps24
            go_wp2_with fail
            with_reducible refine (HN.out _).mono ?_
            rintro e w1 ⟨rfl, rfl⟩
            go_wp2_with fail
            with_reducible refine HI.out.mono ?_
            rintro e w1 ⟨a1, c1, rfl, hx, q⟩
            have X1 := Lib.hid (hx.alloc (.cells #[.slice a1 (insB l).length c1, .int .i64 (insU l)] 24))
            have HL2 := Lib.hid (HLN.out _ _ _ X1.out)
            have Q1 := Lib.hid (bal q (.cells #[.slice a1 (insB l).length c1, .int .i64 (insU l)] 24))
            have Z1 := Lib.hid (Blk.new w1 24 #[.slice a1 (insB l).length c1, .int .i64 (insU l)])
            obtain ⟨T, hT⟩ : ∃ T, w1.heap.size = T := ⟨_, rfl⟩
            rw [hT] at Z1
            clear hx q
            go_wp2_with fail
            with_reducible refine HL2.out.mono ?_
            rintro e w2 ⟨rfl, q⟩
            have Q2 := Lib.hid (bthen Q1.out q)
            have X2 := Lib.hid (X1.out.below q)
            have Z2 := Lib.hid (Z1.out.below q (by simp; omega))
            clear q X1 Z1 HL2 Q1
            obtain ⟨z0, z1, zl, zf⟩ := Z2.out.cells2
            have HR2 := Lib.hid (HRD.out _ _ _ X2.out)
            go_wp2_with fail
            with_reducible refine HR2.out.mono ?_
            rintro e w3 ⟨gc, gb, rfl, hgc, hgb, _, _, q⟩
            have Q3 := Lib.hid (bthen Q2.out q)
            have X3 := Lib.hid (X2.out.below q)
            have C3 := Lib.hid hgc
            have G3 := Lib.hid hgb
            clear q hgc hgb HR2 X2 Z2 Q2 z0 z1 zl zf hT
            go_wp2_with fail
            with_reducible refine (HR3.out _ _ _ _ _ X3.out C3.out G3.out).mono ?_
            rintro e w4 ⟨k, rfl, rfl⟩
            go_wp2_with fail
            go_ret2
            exact ⟨rfl, below_drewN Q3.out _⟩
          · have HS := Lib.hid (HYES.out _ (by rw [HD2, if_pos ⟨by omega, .inr hlast⟩]))
            rw [HS.out.1, HS.out.2]
            have HR3 := Lib.hid (fun (w : World) a c gc gb h hc hb => HR1.out w a c gc gb h hc hb (t : Int))
            rw [hlast] at HR3
            clear HD2 hok hlast hNM
            go_enter Try.func24, Try.ntmps24
            go_wp2_with fail
            with_reducible refine (HN.out _).mono ?_
            rintro e w1 ⟨rfl, rfl⟩
            go_wp2_with fail
            with_reducible refine HI.out.mono ?_
            rintro e w1 ⟨a1, c1, rfl, hx, q⟩
            have X1 := Lib.hid (hx.alloc (.cells #[.slice a1 (insB l).length c1, .int .i64 (insU l)] 24))
            have HL2 := Lib.hid (HLN.out _ _ _ X1.out)
            have Q1 := Lib.hid (bal q (.cells #[.slice a1 (insB l).length c1, .int .i64 (insU l)] 24))
            have Z1 := Lib.hid (Blk.new w1 24 #[.slice a1 (insB l).length c1, .int .i64 (insU l)])
            obtain ⟨T, hT⟩ : ∃ T, w1.heap.size = T := ⟨_, rfl⟩
            rw [hT] at Z1
            clear hx q
            go_wp2_with fail
            with_reducible refine HL2.out.mono ?_
            rintro e w2 ⟨rfl, q⟩
            have Q2 := Lib.hid (bthen Q1.out q)
            have X2 := Lib.hid (X1.out.below q)
            have Z2 := Lib.hid (Z1.out.below q (by simp; omega))
            clear q X1 Z1 HL2 Q1
            obtain ⟨z0, z1, zl, zf⟩ := Z2.out.cells2
            have HR2 := Lib.hid (HRD.out _ _ _ X2.out)
            go_wp2_with fail
            with_reducible refine HR2.out.mono ?_
            rintro e w3 ⟨gc, gb, rfl, hgc, hgb, _, _, q⟩
            have Q3 := Lib.hid (bthen Q2.out q)
            have X3 := Lib.hid (X2.out.below q)
            have C3 := Lib.hid hgc
            have G3 := Lib.hid hgb
            clear q hgc hgb HR2 X2 Z2 Q2 z0 z1 zl zf hT
            go_wp2_with fail
            with_reducible refine (HR3.out _ _ _ _ _ X3.out C3.out G3.out).mono ?_
            rintro e w4 ⟨k4, rfl, rfl⟩
            go_wp2_with fail
            go_loopw [10, 41] (fun s i wr => ∃ k q : Nat, k ≤ t + 1 ∧ i = .int .i64 k ∧ s = .int .i64 (setTo (fun i => atB (insB l) (insU l) i) k : Nat) ∧ wr = w3.drewN q) (fun _ i _ => t + 1 - (intOf i).toNat)
            case atStart => exact ⟨0, k4, Nat.zero_le _, rfl, rfl, rfl⟩
            case round =>
              obtain ⟨k, q, hk, rfl, rfl, rfl⟩ := hrel
              have hk0 : (0 : Int) ≤ k := by omega
              have hlo := setTo_lt (fun i => atB (insB l) (insU l) i) k
              by_cases hlt : k < t + 1
              · have hlt2 : (k : Int) < (t : Int) + 1 := by omega
                have HR4 := Lib.hid (HR1.out _ _ _ _ _ (X3.out.drewN q) (C3.out.drewN q) (G3.out.drewN q) (k : Int))
                have HST : Hid (setTo (fun i => atB (insB l) (insU l) i) (k + 1) = setTo (fun i => atB (insB l) (insU l) i) k + bt (atB (insB l) (insU l) k) * 2 ^ k) := rfl
                generalize setTo (fun i => atB (insB l) (insU l) i) k = A at *
                rcases hbit : atB (insB l) (insU l) (k : Int) with _ | _
                · rw [hbit] at HR4 HST
                  clear hbit
                  go_wp2_with fail
                  with_reducible refine HR4.out.mono ?_
                  rintro e w5 ⟨k5, rfl, rfl⟩
                  go_wp2
                  go_roundw
                  case rel => exact ⟨k + 1, _, by omega, by go_num, by rw [HST.out]; simp [bt], rfl⟩
                  case measure => simp [intOf]; omega
                · rw [hbit] at HR4 HST
                  have hHO := Lib.hid (or_bit64 hlo (by omega))
                  have hk63 : (k : Int) < 64 := by omega
                  clear hbit
                  go_wp2_with fail
                  with_reducible refine HR4.out.mono ?_
                  rintro e w5 ⟨k5, rfl, rfl⟩
                  go_wp2_with fail
                  go_roundw
                  case rel => exact ⟨k + 1, _, by omega, by go_num, by rw [HST.out, hHO.out]; simp [bt], rfl⟩
                  case measure => simp [intOf]; omega
              · obtain rfl : k = t + 1 := by omega
                have hlt2 : ¬ ((t + 1 : Nat) : Int) < (t : Int) + 1 := by omega
                go_wp2_with fail
                go_ret2
                exact ⟨rfl, below_drewN Q3.out _⟩
      · rw [(HNO.out (by rw [HD2, if_neg (by omega)])).1, (HNO.out (by rw [HD2, if_neg (by omega)])).2]
        have hNM2 : (M : Int) < N := by omega
        clear HD2 hok
        go_enter Try.func24, Try.ntmps24
        go_wp2_with fail
        with_reducible refine (HN.out _).mono ?_
        rintro e w1 ⟨rfl, rfl⟩
        go_wp2_with fail
        with_reducible refine HI.out.mono ?_
        rintro e w1 ⟨a1, c1, rfl, hx, q⟩
        have HL2 := Lib.hid (HLN.out _ _ _ (hx.alloc (.cells #[.slice a1 (insB l).length c1, .int .i64 (insU l)] 24)))
        have Q1 := Lib.hid (bal q (.cells #[.slice a1 (insB l).length c1, .int .i64 (insU l)] 24))
        clear hx q
        go_wp2_with fail
        with_reducible refine HL2.out.mono ?_
        rintro e w2 ⟨rfl, q⟩
        have Q2 := Lib.hid (bthen Q1.out q)
        clear q
        go_wp2_with fail
        go_ret2
        exact ⟨rfl, Q2.out⟩
  · rw [decide_eq_false hm] at HN
    rw [(dn_out hm).1, (dn_out hm).2]
    go_enter Try.func24, Try.ntmps24
    go_wp2_with fail
    with_reducible refine (HN.out _).mono ?_
    rintro e w1 ⟨rfl, rfl⟩
    go_wp2_with fail
    go_ret2
    exact ⟨rfl, Below.refl _ _⟩
end Go.Proofs.Ytfflfahhfhnkdaa
