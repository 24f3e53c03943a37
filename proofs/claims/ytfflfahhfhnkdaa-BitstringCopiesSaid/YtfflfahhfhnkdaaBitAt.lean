/-
  Contracts of At, of the program (with its reader, a closure) and of the reference.
-/
import Derived.Test.YtfflfahhfhnkdaaBitLen
import Derived.Laws.BitsAllLaws
import Derived.Laws.Shifts
namespace Go.Proofs.Ytfflfahhfhnkdaa
open Go.RowKit

/-- the reader of a bit string, as a function value -/
def rdF (gc gb : Nat) : Value := .func (.func 37) #[] #[.pointer (some ⟨gc, 0, none⟩), .pointer (some ⟨gb, 0, none⟩)]

theorem and_bit8 : ∀ (x : Fin 256) (k : Fin 8), ((x.val &&& 128 / 2 ^ k.val) != 0) = (x.val / 2 ^ (7 - k.val) % 2 == 1) := by decide +kernel
theorem and_bit {x : UInt8} {k : Nat} (hk : k < 8) : (bits BinOp.and IntKind.u8 (x.toNat : Int) (128 / 2 ^ k) != 0) = (x.toNat / 2 ^ (7 - k) % 2 == 1) := by
  have hx := x.toNat_lt
  have h1 : (128 : Int) / 2 ^ k = ((128 / 2 ^ k : Nat) : Int) := by simp
  have h2 : 128 / 2 ^ k < 256 := Nat.lt_of_le_of_lt (Nat.div_le_self _ _) (by omega)
  rw [h1, u8_and_nat _ _ hx h2, ← and_bit8 ⟨x.toNat, hx⟩ ⟨k, hk⟩, Bool.eq_iff_iff]
  simp only [bne_iff_ne, ne_eq]
  omega
theorem atB_out {l : List UInt8} {u i : Int} (h : ¬ (0 ≤ i ∧ i < lenB l u)) : atB l u i = false := by
  unfold atB
  rw [decide_eq_false h]
  rfl
theorem atB_in {l : List UInt8} {u : Int} {i : Nat} (h : (i : Int) < lenB l u) (h2 : i / 8 < l.length) : atB l u i = (l[i / 8].toNat / 2 ^ (7 - i % 8) % 2 == 1) := by
  unfold atB
  rw [decide_eq_true ⟨by omega, h⟩, Int.toNat_natCast, bitL_at h2]
  rfl

set_option maxRecDepth 100000 in
set_option maxHeartbeats 2000000 in
theorem rd1_any {w : World} {a : Option Addr} {n c gc gb : Nat} {l : List UInt8} {u : Int} (h : Bs w a n c l) (hc : Blk w gc 3 #[.int .i64 (lenB l u)]) (hb : Blk w gb 24 #[.slice a n c, .int .i64 u]) (hz : n ≤ 1000000) (i : Int) :
    Calls Try.prog 37 #[.int .i64 i, .pointer (some ⟨gc, 0, none⟩), .pointer (some ⟨gb, 0, none⟩)] w fun e w' => ∃ k, e = .returned (.bool (atB l u i)) ∧ w' = w.drewN k := by
  have hl := h.len
  have hn1 : (n : Int) ≤ 1000000 := by omega
  have z0 := hc.cell 0
  have zl := hc.lt
  have y0 := hb.cell 0
  have yl := hb.lt
  simp only [List.getElem?_toArray, List.getElem?_cons_zero] at z0 y0
  have HX := Lib.hid h
  have hbd := lenB_bd l u
  clear hc hb h
  obtain ⟨N, hN⟩ : ∃ N, lenB l u = N := ⟨_, rfl⟩
  rw [hN] at z0 hbd
  rw [hl] at hbd
  by_cases h0 : 0 ≤ i
  · by_cases h1 : i < N
    · obtain ⟨j, rfl⟩ : ∃ j : Nat, i = j := ⟨i.toNat, by omega⟩
      have hjn : j / 8 < n := by omega
      obtain ⟨b, off, hll, rfl, hb, hc⟩ := HX.out.at_ hjn
      rw [atB_in (by omega) hll]
      have hx := byte_bd l[j / 8]
      generalize l[j / 8] = x at *
      have h81 : (j : Int) / 8 = ((j / 8 : Nat) : Int) := by omega
      have h82 : (j : Int) % 8 = ((j % 8 : Nat) : Int) := by omega
      have h83 : j % 8 < 8 := Nat.mod_lt _ (by omega)
      obtain ⟨J, hJ⟩ : ∃ J, j / 8 = J := ⟨_, rfl⟩
      obtain ⟨K, hK⟩ : ∃ K, j % 8 = K := ⟨_, rfl⟩
      rw [hJ] at h81 hc hjn
      rw [hK] at h82 h83 ⊢
      rw [← and_bit h83]
      have hJn : (J : Int) < n := by omega
      have hK8 : (K : Int) < 8 := by omega
      clear hl hll hbd hN hJ hK
      go_enter Try.func37, Try.ntmps37
      go_wp2_with fail
      go_quiet (fail)
      go_wp2
      go_ret
      exact ⟨_, rfl, rfl⟩
    · rw [atB_out (by omega)]
      have hd1 := decide_eq_false h1
      have hd0 := decide_eq_true h0
      clear hl hbd hN
      go_enter Try.func37, Try.ntmps37
      go_wp2_with fail
      go_quiet (fail)
      go_wp2
      go_ret
      exact ⟨_, rfl, rfl⟩
  · rw [atB_out (by omega)]
    clear hl hbd hN
    have h00 : i < 0 := by omega
    have hd0 := decide_eq_false h0
    go_enter Try.func37, Try.ntmps37
    go_wp2_with fail
    go_quiet (fail)
    go_wp2
    go_ret
    exact ⟨_, rfl, rfl⟩

set_option maxRecDepth 100000 in
set_option maxHeartbeats 2000000 in
theorem reader_any {w : World} {a : Option Addr} {n c : Nat} {l : List UInt8} (h : Bs w a n c l) (u : Int) (hz : n ≤ 1000000) :
    Calls Try.prog 32 #[bV a n c u] w fun e w' => ∃ gc gb, e = .returned (rdF gc gb) ∧ Blk w' gc 3 #[.int .i64 (lenB l u)] ∧ Blk w' gb 24 #[.slice a n c, .int .i64 u] ∧ w.heap.size ≤ gc ∧ w.heap.size ≤ gb ∧ Below w.heap.size w w' := by
  have hmf : ∀ (fn : Fn) (first cap : Array Value) (w : World), (Instr.makeFunc fn first cap).run Try.prog w = .ok (.func fn first cap) w := fun _ _ _ _ => rfl
  unfold bV
  have HV := Lib.hid (blen_any (h.alloc (.cells #[.slice a n c, .int .i64 u] 24)) u hz)
  unfold bV at HV
  have Z := Lib.hid (Blk.new w 24 #[.slice a n c, .int .i64 u])
  clear h
  go_enter Try.func32, Try.ntmps32
  go_wp2_with fail
  with_reducible refine HV.out.mono ?_
  rintro e w1 ⟨rfl, q⟩
  have QN := Lib.hid (bthen (bal (Below.refl _ _) _) q)
  have Z1 := Lib.hid (Z.out.below q (by simp))
  clear q
  go_wp2_with fail
  go_ret
  exact ⟨_, _, rfl, Blk.new _ _ _, Z1.out.alloc _, QN.out.size, Nat.le_refl _, bal QN.out _⟩

set_option maxRecDepth 100000 in
set_option maxHeartbeats 2000000 in
theorem bat_any {w : World} {a : Option Addr} {n c : Nat} {l : List UInt8} (h : Bs w a n c l) (u : Int) (hz : n ≤ 1000000) (i : Int) :
    Calls Try.prog 20 #[bV a n c u, .int .i64 i] w fun e w' => e = .returned (.bool (atB l u i)) ∧ Below w.heap.size w w' := by
  unfold bV
  have HX := Lib.hid h
  have HR := Lib.hid (reader_any (h.alloc (.cells #[.slice a n c, .int .i64 u] 24)) u hz)
  unfold bV rdF at HR
  clear h
  go_enter Try.func20, Try.ntmps20
  go_wp2_with fail
  with_reducible refine HR.out.mono ?_
  rintro e w1 ⟨gc, gb, rfl, hc, hb, hgc, hgb, q⟩
  have QN := Lib.hid (bthen (bal (Below.refl _ _) _) q)
  have HA := Lib.hid (rd1_any (HX.out.below QN.out) hc hb hz i)
  clear q hc hb hgc hgb
  go_wp2_with fail
  with_reducible refine HA.out.mono ?_
  rintro e w2 ⟨k, rfl, rfl⟩
  go_wp2_with fail
  go_ret
  exact ⟨rfl, below_drewN QN.out _⟩

set_option maxRecDepth 100000 in
set_option maxHeartbeats 2000000 in
theorem ref_bat_any {w : World} {a : Option Addr} {n c : Nat} {l : List UInt8} (h : Bs w a n c l) (u : Int) (hz : n ≤ 1000000) (i : Int) :
    Calls Try.prog 21 #[bV a n c u, .int .i64 i] w fun e w' => e = .returned (.bool (atB l u i)) ∧ Below w.heap.size w w' := by
  unfold bV
  have HX := Lib.hid h
  have HV := Lib.hid (ref_blen_any (h.alloc (.cells #[.slice a n c, .int .i64 u] 24)) u hz)
  unfold bV at HV
  have hl := h.len
  have hn1 : (n : Int) ≤ 1000000 := by omega
  have hbd := lenB_bd l u
  have Z := Lib.hid (Blk.new w 24 #[.slice a n c, .int .i64 u])
  clear h
  obtain ⟨N, hN⟩ : ∃ N, lenB l u = N := ⟨_, rfl⟩
  rw [hN] at HV hbd
  rw [hl] at hbd
  by_cases h0 : 0 ≤ i
  · have h00 : ¬ i < 0 := by omega
    by_cases h1 : i < N
    · obtain ⟨j, rfl⟩ : ∃ j : Nat, i = j := ⟨i.toNat, by omega⟩
      have hjn : j / 8 < n := by omega
      obtain ⟨b, off, hll, rfl, hb, hc0⟩ := HX.out.at_ hjn
      rw [atB_in (by omega) hll]
      have hx := byte_bd l[j / 8]
      generalize l[j / 8] = x at *
      have h81 : (j : Int) / 8 = ((j / 8 : Nat) : Int) := by omega
      have h82 : (j : Int) % 8 = ((j % 8 : Nat) : Int) := by omega
      have h83 : j % 8 < 8 := Nat.mod_lt _ (by omega)
      have h1n : ¬ N ≤ (j : Int) := by omega
      obtain ⟨J, hJ⟩ : ∃ J, j / 8 = J := ⟨_, rfl⟩
      obtain ⟨K, hK⟩ : ∃ K, j % 8 = K := ⟨_, rfl⟩
      rw [hJ] at h81 hc0 hjn
      rw [hK] at h82 h83 ⊢
      have hJn : (J : Int) < n := by omega
      have hK8 : (K : Int) < 8 := by omega
      clear hl hll hbd hN hJ hK
      go_enter Try.func21, Try.ntmps21
      go_wp2_with fail
      with_reducible refine HV.out.mono ?_
      rintro e w1 ⟨rfl, q⟩
      have QN := Lib.hid (bthen (bal (Below.refl _ _) _) q)
      have z0 := (Z.out.below q (by simp)).cell 0
      have zl := (Z.out.below q (by simp)).lt
      have hc := (QN.out.cell (p := ⟨b, off + J, none⟩) hb).trans hc0
      have hb1 := Nat.lt_of_lt_of_le hb QN.out.size
      simp only [List.getElem?_toArray, List.getElem?_cons_zero] at z0
      clear q hc0 hb
      go_wp2_with fail
      go_loop [5, 6] (fun s t => ∃ m : Nat, m ≤ 7 - K ∧ t = .int .i64 ((7 - m : Nat) : Int) ∧ s = .int .i64 ((x.toNat / 2 ^ m : Nat) : Int)) (fun _ t => (intOf t).toNat - K)
      case atStart => exact ⟨0, Nat.zero_le _, rfl, by simp⟩
      case round =>
        obtain ⟨m, hm, rfl, rfl⟩ := hrel
        have hy1 : x.toNat / 2 ^ m ≤ 255 := Nat.le_trans (Nat.div_le_self _ _) (by omega)
        have hy2 : x.toNat / 2 ^ (m + 1) = x.toNat / 2 ^ m / 2 := by rw [Nat.pow_succ, Nat.div_div_eq_div_mul]
        by_cases hlt : m < 7 - K
        · have HY := Lib.hid hy2
          obtain ⟨Y, hY⟩ : ∃ Y, x.toNat / 2 ^ m = Y := ⟨_, rfl⟩
          rw [hY] at hy1 HY ⊢
          obtain ⟨M, hM⟩ : ∃ M, 7 - m = M := ⟨_, rfl⟩
          rw [hM]
          have hM1 : (K : Int) < M := by omega
          have hM2 : (M : Int) ≤ 7 := by omega
          clear hy2 hY
          go_wp2
          go_round
          case rel => exact ⟨m + 1, by omega, by rw [show 7 - (m + 1) = M - 1 from by omega]; go_num, by rw [HY.out]; go_num⟩
          case measure => simp [intOf]; omega
        · obtain rfl : m = 7 - K := by omega
          rw [show 7 - (7 - K) = K from by omega]
          have hKK : ¬ (K : Int) < K := by omega
          obtain ⟨Y, hY⟩ : ∃ Y, x.toNat / 2 ^ (7 - K) = Y := ⟨_, rfl⟩
          have HY := Lib.hid hY
          rw [hY] at hy1 ⊢
          clear hy2 hY
          go_wp2_with fail
          go_ret
          exact ⟨ret_bool (by rw [HY.out, Bool.eq_iff_iff, beq_iff_eq, beq_iff_eq]; omega), QN.out⟩
    · rw [atB_out (by omega)]
      have h1n : N ≤ i := by omega
      go_enter Try.func21, Try.ntmps21
      go_wp2_with fail
      with_reducible refine HV.out.mono ?_
      rintro e w1 ⟨rfl, q⟩
      have QN := Lib.hid (bthen (bal (Below.refl _ _) _) q)
      clear q
      go_wp2_with fail
      go_ret
      exact ⟨rfl, QN.out⟩
  · rw [atB_out (by omega)]
    have h00 : i < 0 := by omega
    go_enter Try.func21, Try.ntmps21
    go_wp2_with fail
    go_ret
    exact ⟨rfl, bal (Below.refl _ _) _⟩
end Go.Proofs.Ytfflfahhfhnkdaa
