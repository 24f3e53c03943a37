/-
  Contracts of the reference's Len and Encode.
-/
import Derived.Test.YtkmpmphabohkkaaDoorChValid
import Derived.Test.YtkmpmphabohkkaaDoorAppend
import Derived.Deep.RegionLaw
namespace Go.Proofs.YtkmpmphabohkkaaDoor
open Go.RowKit

set_option maxRecDepth 100000 in
set_option maxHeartbeats 4000000 in
theorem ref_tlen_any (k : Int) (s : List UInt8) (hz : s.length ≤ 100000) (w : World) :
    Calls Tryd.prog 15 #[tV k s] w fun e w' => e = .returned (.int .i64 (lenT k s)) ∧ Below w.heap.size w w' := by
  have HV := Lib.hid (fun w => ref_tvalid_any k s hz w)
  have HP := Lib.hid (fun w => pts_any s hz w)
  unfold tV at HV ⊢
  obtain ⟨A, hA⟩ : ∃ A, w.heap.size = A := ⟨_, rfl⟩
  have Z1 := Lib.hid (Blk.new w 23 #[.int .i64 k, .string ⟨s.toArray⟩])
  rw [hA] at Z1
  have Q1 := Lib.hid (bal (Below.refl w.heap.size w) (.cells #[.int .i64 k, .string ⟨s.toArray⟩] 23))
  unfold lenT
  rcases hv : vT k s with _ | _
  · rw [hv] at HV
    rw [if_neg (by decide)]
    clear hv
    go_enter Tryd.func15, Tryd.ntmps15
    go_wp2_with fail
    generalize w.alloc (.cells #[.int .i64 k, .string ⟨s.toArray⟩] 23) = w1 at *
    clear hA
    with_reducible refine (HV.out _).mono ?_
    rintro e w2 ⟨rfl, q⟩
    have Q2 := Lib.hid (bthen Q1.out q)
    clear q
    go_wp2_with fail
    go_ret
    exact ⟨rfl, Q2.out⟩
  · rw [hv] at HV
    rw [if_pos rfl]
    clear hv
    go_enter Tryd.func15, Tryd.ntmps15
    go_wp2_with fail
    generalize w.alloc (.cells #[.int .i64 k, .string ⟨s.toArray⟩] 23) = w1 at *
    clear hA
    with_reducible refine (HV.out _).mono ?_
    rintro e w2 ⟨rfl, q⟩
    have Q2 := Lib.hid (bthen Q1.out q)
    have Z2 := Lib.hid (Z1.out.below q Z1.out.lt)
    clear q
    obtain ⟨z0, z1, zl, zf⟩ := Z2.out.cells2
    go_wp2_with fail
    with_reducible refine (HP.out _).mono ?_
    rintro e w3 ⟨a3, c3, rfl, ho, q⟩
    have Q3 := Lib.hid (bthen Q2.out q)
    clear q ho
    go_wp2_with fail
    go_ret
    exact ⟨rfl, Q3.out⟩

theorem octW_0 (x : Nat) : octW 0 x = u8O x := rfl
theorem octW_1 (x : Nat) : octW 1 x = [by8 x] := rfl
theorem octW_2 (x : Nat) : octW 2 x = [by8 (x / 256), by8 (x % 256)] := rfl
theorem octW_4 (x : Nat) : octW 4 x = [0, by8 (x / 65536), by8 (x / 256 % 256), by8 (x % 256)] := rfl
theorem octL_take {w : Int} {L : List Nat} {j : Nat} (h : j < L.length) : octL w (L.take (j + 1)) = octL w (L.take j) ++ octW w L[j] := by
  rw [List.take_succ_eq_append_getElem h, octL_snoc]
theorem octW_le {w : Int} (x : Nat) : (octW w x).length ≤ 4 := by
  unfold octW
  split
  · exact u8O_le x
  · split
    · simp
    · split <;> simp
theorem octL_le {w : Int} : ∀ L : List Nat, (octL w L).length ≤ 4 * L.length
  | [] => Nat.le_refl _
  | x :: L => by
    have := octL_le (w := w) L
    have := octW_le (w := w) x
    rw [octL_cons, List.length_append, List.length_cons]
    omega
theorem wrap_big {z : Int} (h0 : 0 ≤ z) (h1 : z ≤ 1000000000) : IntKind.i64.wrap z = z := by rw [IntKind.wrap_i64]; omega
theorem uk_belowB {k : IntKind} {w w' : World} {B : Nat} {a : Option Addr} {n c : Nat} {L : List Nat} (h : Uk k w a n c L) (hb : Below B w w') (ha : ∀ x, a = some x → x.block < B) : Uk k w' a n c L :=
  ⟨h.1, h.2.1, h.2.2.1, fun hn => by
    obtain ⟨b, off, e, hlt, hc⟩ := h.2.2.2 hn
    exact ⟨b, off, e, Nat.lt_of_lt_of_le hlt hb.size, fun i hi => (hb.cell (p := ⟨b, off + i, none⟩) (show b < B from ha _ e)).trans (hc i hi)⟩⟩
theorem u8_wrap (b : UInt8) : IntKind.u8.wrap (b.toNat : Int) = b.toNat := by
  rw [IntKind.wrap_u8']
  have := b.toNat_lt
  omega

set_option maxRecDepth 100000 in
set_option maxHeartbeats 4000000 in
theorem ref_tenc_any (k : Int) (s : List UInt8) (hz : s.length ≤ 100000) (w : World) :
    Calls Tryd.prog 10 #[tV k s] w fun e w' => ∃ a c, e = .returned (.tuple #[.slice a (teL k s).length c, .int .i64 (teC k s)]) ∧ Own w' w.heap.size 5 a (teL k s).length c (teL k s) ∧ Below w.heap.size w w' := by
  have HV := Lib.hid (fun w => ref_tvalid_any k s hz w)
  have HP := Lib.hid (fun w => pts_any s hz w)
  have HW := Lib.hid (fun w => width_any k w)
  unfold tV at HV ⊢
  obtain ⟨i0, hi, hz0, hz1, hz2⟩ := info_parts info_u8
  obtain ⟨A, hA⟩ : ∃ A, w.heap.size = A := ⟨_, rfl⟩
  have Z1 := Lib.hid (Blk.new w 23 #[.int .i64 k, .string ⟨s.toArray⟩])
  rw [hA] at Z1
  have Q1 := Lib.hid (bal (Below.refl w.heap.size w) (.cells #[.int .i64 k, .string ⟨s.toArray⟩] 23))
  rcases hv : vT k s with _ | _
  · rw [hv] at HV
    rw [(te_no hv).1, (te_no hv).2]
    clear hv
    go_enter Tryd.func10, Tryd.ntmps10
    go_wp2_with fail
    generalize w.alloc (.cells #[.int .i64 k, .string ⟨s.toArray⟩] 23) = w1 at *
    clear hA
    with_reducible refine (HV.out _).mono ?_
    rintro e w2 ⟨rfl, q⟩
    have Q2 := Lib.hid (bthen Q1.out q)
    clear q
    go_wp2_with fail
    go_ret2
    exact ⟨none, 0, rfl, World.ownsRow_nil _ _ _ _, Q2.out⟩
  · rw [hv] at HV
    rw [(te_yes hv).1, (te_yes hv).2]
    obtain ⟨L, hpt, hL, hwd, hall, _, _⟩ := vT_some hv
    rw [hL]
    rw [hL, show (ptsO s).isSome = true by rw [hpt]; rfl] at HP
    have hlen := ptsL_len s
    rw [hL] at hlen
    have HFIT : Hid (∀ x ∈ L, (widK k = 1 → x < 256) ∧ (widK k = 2 → x < 65536) ∧ x ≤ 1114111) := fun x hx => by
      have h := has_fits (List.all_eq_true.1 hall x hx)
      exact ⟨h.1, h.2.1, h.2.2.1⟩
    have HOC := Lib.hid (fun (x : Nat) (h : x ≤ 100000000) w => octets_any x h w)
    obtain ⟨n, hn⟩ : ∃ n, L.length = n := ⟨_, rfl⟩
    have HN := Lib.hid hn
    rw [hn] at HP hlen
    have hn2 : (n : Int) ≤ 100000 := by omega
    have hwis := wid_is hwd
    clear hv hpt hL hall hn hlen hwd
    generalize widK k = W at *
    rcases hwis with rfl | rfl | rfl | rfl
    · have HW2 := Lib.hid (fun w => HW.out w)
      go_enter Tryd.func10, Tryd.ntmps10
      go_wp2_with fail
      generalize w.alloc (.cells #[.int .i64 k, .string ⟨s.toArray⟩] 23) = w1 at *
      clear hA
      with_reducible refine (HV.out _).mono ?_
      rintro e w2 ⟨rfl, q⟩
      have Q2 := Lib.hid (bthen Q1.out q)
      have Z2 := Lib.hid (Z1.out.below q Z1.out.lt)
      clear q
      obtain ⟨z0, z1, zl, zf⟩ := Z2.out.cells2
      go_wp2_with fail
      with_reducible refine (HP.out _).mono ?_
      rintro e w3 ⟨a3, c3, rfl, ho, q⟩
      have Q3 := Lib.hid (bthen Q2.out q)
      have Z3 := Lib.hid (Z2.out.below q Z2.out.lt)
      obtain ⟨B, hB⟩ : ∃ B, w3.heap.size = B := ⟨_, rfl⟩
      have M3 := Lib.hid ho.uk
      have HMB : Hid (∀ x, a3 = some x → x.block < B) := fun x hx => by rw [← hB]; exact (ho.base x hx).2
      have hAB : A < B := by rw [← hB]; exact Z3.out.lt
      have hwB : w.heap.size ≤ B := by rw [← hB]; exact Q3.out.size
      have hBs : B ≤ w3.heap.size := Nat.le_of_eq hB.symm
      clear q ho z0 z1 zl zf hB
      go_wp2_with fail
      go_loopw [6, 7] (fun o i wr => ∃ a c, ∃ j : Nat, j ≤ n ∧ i = .int .i64 j ∧ o = .slice a (octL 0 (L.take j)).length c ∧ Own wr B 5 a (octL 0 (L.take j)).length c (octL 0 (L.take j)) ∧ Blk wr A 23 #[.int .i64 k, .string ⟨s.toArray⟩] ∧ Uk .i64 wr a3 n c3 L ∧ Below w.heap.size w wr ∧ B ≤ wr.heap.size) (fun _ i _ => n - (intOf i).toNat)
      case atStart => exact ⟨none, 0, 0, Nat.zero_le _, rfl, rfl, World.ownsRow_nil _ _ _ _, Z3.out, M3.out, Q3.out, hBs⟩
      case round =>
        obtain ⟨a, c, j, hj, rfl, rfl, ho, hzb, hm, hq, hsz⟩ := hrel
        have O4 := Lib.hid ho
        have Z4 := Lib.hid hzb
        have M4 := Lib.hid hm
        have Q4 := Lib.hid hq
        clear ho hzb hm hq
        have hj0 : (0 : Int) ≤ j := by omega
        by_cases hlt : j < n
        · have hlt2 : (j : Int) < n := by omega
          have hjL : j < L.length := by have := HN.out; omega
          obtain ⟨mb, mo, hml, rfl, hmb, hmc⟩ := M4.out.at_ hlt
          have hfit := HFIT.out L[j] (List.getElem_mem hjL)
          have HST := Lib.hid (octL_take (w := 0) hjL)
          have hle := octL_le (w := 0) (L.take j)
          rw [List.length_take] at hle
          obtain ⟨x, hx⟩ : ∃ x, L[j] = x := ⟨_, rfl⟩
          simp only [hx] at HST hmc hfit
          obtain ⟨N, hNN⟩ : ∃ N, (octL 0 (L.take j)).length = N := ⟨_, rfl⟩
          have HNN := Lib.hid hNN
          rw [hNN] at O4 hle ⊢
          have hN9 : N ≤ 400000 := by omega
          clear hx hml hjL hNN hle
          obtain ⟨z0, z1, zl, zf⟩ := Z4.out.cells2
          have HOX := Lib.hid (fun w => HOC.out x (by omega) w)
          have HLN : Hid ((octL 0 (L.take (j + 1))).length = N + (u8O x).length) := by rw [Hid, HST.out, List.length_append, HNN.out, octW_0]
          rw [octW_0] at HST
          have hul := u8O_le x
          clear hfit
          go_wp2_with fail
          with_reducible refine (HW2.out _).mono ?_
          rintro e w' ⟨rfl, rfl⟩
          go_wp2_with fail
          with_reducible refine (HOX.out _).mono ?_
          rintro e w4 ⟨a4, c4, rfl, ho4, q⟩
          have OX := Lib.hid (O4.out.below q)
          have HSZ : B ≤ w4.heap.size := by have := q.size; omega
          have ZX := Lib.hid (Z4.out.below q zl)
          have MX := Lib.hid (M4.out.below q)
          have QX := Lib.hid (bthen Q4.out q)
          have SX := Lib.hid ho4.bs
          clear q ho4 z0 z1 zl zf
          go_wp2_with (at_builtin; go_must (refine wpList_app _ rfl _ _ 25 rfl B 5 i0 Tryd.underlying25 hi hz0 hz1 hz2 a N c _ rfl OX.out a4 (u8O x).length c4 (u8O x) rfl SX.out (by omega) HSZ ?_))
          intro a5 c5 w5 ho5 hg5
          have B5 := Lib.hid (app_below (OX.out) hg5 (Nat.le_refl _) HSZ)
          have Q5 : Hid (Below w.heap.size w w5) := QX.out.trans (B5.out.mono hwB)
          have Z5 := Lib.hid (ZX.out.below B5.out hAB)
          have M5 := Lib.hid (uk_belowB MX.out B5.out HMB.out)
          have O5 := Lib.hid ho5
          have hs5 : B ≤ w5.heap.size := by have := B5.out.size; have := HSZ; omega
          clear ho5 hg5 B5
          go_wp2
          go_roundw
          case rel => exact ⟨a5, c5, j + 1, by omega, by go_num, by rw [HLN.out], by rw [HLN.out, HST.out]; exact O5.out, Z5.out, M5.out, Q5.out, hs5⟩
          case measure => simp [intOf]; omega
        · obtain rfl : j = n := by omega
          have hlt2 : ¬ (j : Int) < j := by omega
          have e : L.take j = L := List.take_of_length_le (by have := HN.out; omega)
          rw [e] at O4 ⊢
          go_wp2_with fail
          go_ret2
          exact ⟨a, c, rfl, O4.out.more hwB, Q4.out⟩
    · have HW2 := Lib.hid (fun w => HW.out w)
      go_enter Tryd.func10, Tryd.ntmps10
      go_wp2_with fail
      generalize w.alloc (.cells #[.int .i64 k, .string ⟨s.toArray⟩] 23) = w1 at *
      clear hA
      with_reducible refine (HV.out _).mono ?_
      rintro e w2 ⟨rfl, q⟩
      have Q2 := Lib.hid (bthen Q1.out q)
      have Z2 := Lib.hid (Z1.out.below q Z1.out.lt)
      clear q
      obtain ⟨z0, z1, zl, zf⟩ := Z2.out.cells2
      go_wp2_with fail
      with_reducible refine (HP.out _).mono ?_
      rintro e w3 ⟨a3, c3, rfl, ho, q⟩
      have Q3 := Lib.hid (bthen Q2.out q)
      have Z3 := Lib.hid (Z2.out.below q Z2.out.lt)
      obtain ⟨B, hB⟩ : ∃ B, w3.heap.size = B := ⟨_, rfl⟩
      have M3 := Lib.hid ho.uk
      have HMB : Hid (∀ x, a3 = some x → x.block < B) := fun x hx => by rw [← hB]; exact (ho.base x hx).2
      have hAB : A < B := by rw [← hB]; exact Z3.out.lt
      have hwB : w.heap.size ≤ B := by rw [← hB]; exact Q3.out.size
      have hBs : B ≤ w3.heap.size := Nat.le_of_eq hB.symm
      clear q ho z0 z1 zl zf hB
      go_wp2_with fail
      go_loopw [6, 7] (fun o i wr => ∃ a c, ∃ j : Nat, j ≤ n ∧ i = .int .i64 j ∧ o = .slice a (octL 1 (L.take j)).length c ∧ Own wr B 5 a (octL 1 (L.take j)).length c (octL 1 (L.take j)) ∧ Blk wr A 23 #[.int .i64 k, .string ⟨s.toArray⟩] ∧ Uk .i64 wr a3 n c3 L ∧ Below w.heap.size w wr ∧ B ≤ wr.heap.size) (fun _ i _ => n - (intOf i).toNat)
      case atStart => exact ⟨none, 0, 0, Nat.zero_le _, rfl, rfl, World.ownsRow_nil _ _ _ _, Z3.out, M3.out, Q3.out, hBs⟩
      case round =>
        obtain ⟨a, c, j, hj, rfl, rfl, ho, hzb, hm, hq, hsz⟩ := hrel
        have O4 := Lib.hid ho
        have Z4 := Lib.hid hzb
        have M4 := Lib.hid hm
        have Q4 := Lib.hid hq
        clear ho hzb hm hq
        have hj0 : (0 : Int) ≤ j := by omega
        by_cases hlt : j < n
        · have hlt2 : (j : Int) < n := by omega
          have hjL : j < L.length := by have := HN.out; omega
          obtain ⟨mb, mo, hml, rfl, hmb, hmc⟩ := M4.out.at_ hlt
          have hfit := HFIT.out L[j] (List.getElem_mem hjL)
          have HST := Lib.hid (octL_take (w := 1) hjL)
          have hle := octL_le (w := 1) (L.take j)
          rw [List.length_take] at hle
          obtain ⟨x, hx⟩ : ∃ x, L[j] = x := ⟨_, rfl⟩
          simp only [hx] at HST hmc hfit
          obtain ⟨N, hNN⟩ : ∃ N, (octL 1 (L.take j)).length = N := ⟨_, rfl⟩
          have HNN := Lib.hid hNN
          rw [hNN] at O4 hle ⊢
          have hN9 : N ≤ 400000 := by omega
          clear hx hml hjL hNN hle
          obtain ⟨z0, z1, zl, zf⟩ := Z4.out.cells2
          have hx8 : x < 256 := by simpa using hfit.1
          have e0 := by8_int (n := x) (z := (x : Int)) hx8 rfl
          have HLN : Hid ((octL 1 (L.take (j + 1))).length = N + 1) := by rw [Hid, HST.out, List.length_append, HNN.out, octW_1]; rfl
          rw [octW_1] at HST
          generalize by8 x = b0 at *
          have y0 := byte_bd b0
          have u0 := u8_wrap b0
          have SX := Lib.hid ((lit1 (w := wr) b0).bs)
          have OX := Lib.hid (O4.out.below (bal (Below.refl _ wr) (.cells #[.int .u8 b0.toNat] 5)))
          have ZX := Lib.hid (Z4.out.alloc (.cells #[.int .u8 b0.toNat] 5))
          have MX := Lib.hid (M4.out.below (bal (Below.refl _ wr) (.cells #[.int .u8 b0.toNat] 5)))
          have QX := Lib.hid (bal Q4.out (.cells #[.int .u8 b0.toNat] 5))
          have HSZ : B ≤ (wr.alloc (.cells #[.int .u8 b0.toNat] 5)).heap.size := by simp; omega
          clear hfit
          go_wp2_with fail
          with_reducible refine (HW2.out _).mono ?_
          rintro e w' ⟨rfl, rfl⟩
          go_wp2_with (at_builtin; go_must (refine wpList_app _ rfl _ _ 25 rfl B 5 i0 Tryd.underlying25 hi hz0 hz1 hz2 a N c _ rfl OX.out _ 1 1 [b0] rfl SX.out (by omega) HSZ ?_))
          intro a5 c5 w5 ho5 hg5
          have B5 := Lib.hid (app_below (OX.out) hg5 (Nat.le_refl _) HSZ)
          have Q5 : Hid (Below w.heap.size w w5) := QX.out.trans (B5.out.mono hwB)
          have Z5 := Lib.hid (ZX.out.below B5.out hAB)
          have M5 := Lib.hid (uk_belowB MX.out B5.out HMB.out)
          have O5 := Lib.hid ho5
          have hs5 : B ≤ w5.heap.size := by have := B5.out.size; have := HSZ; omega
          clear ho5 hg5 B5
          go_wp2
          go_roundw
          case rel => exact ⟨a5, c5, j + 1, by omega, by go_num, by rw [HLN.out], by rw [HLN.out, HST.out]; exact O5.out, Z5.out, M5.out, Q5.out, hs5⟩
          case measure => simp [intOf]; omega
        · obtain rfl : j = n := by omega
          have hlt2 : ¬ (j : Int) < j := by omega
          have e : L.take j = L := List.take_of_length_le (by have := HN.out; omega)
          rw [e] at O4 ⊢
          go_wp2_with fail
          go_ret2
          exact ⟨a, c, rfl, O4.out.more hwB, Q4.out⟩
    · have HW2 := Lib.hid (fun w => HW.out w)
      go_enter Tryd.func10, Tryd.ntmps10
      go_wp2_with fail
      generalize w.alloc (.cells #[.int .i64 k, .string ⟨s.toArray⟩] 23) = w1 at *
      clear hA
      with_reducible refine (HV.out _).mono ?_
      rintro e w2 ⟨rfl, q⟩
      have Q2 := Lib.hid (bthen Q1.out q)
      have Z2 := Lib.hid (Z1.out.below q Z1.out.lt)
      clear q
      obtain ⟨z0, z1, zl, zf⟩ := Z2.out.cells2
      go_wp2_with fail
      with_reducible refine (HP.out _).mono ?_
      rintro e w3 ⟨a3, c3, rfl, ho, q⟩
      have Q3 := Lib.hid (bthen Q2.out q)
      have Z3 := Lib.hid (Z2.out.below q Z2.out.lt)
      obtain ⟨B, hB⟩ : ∃ B, w3.heap.size = B := ⟨_, rfl⟩
      have M3 := Lib.hid ho.uk
      have HMB : Hid (∀ x, a3 = some x → x.block < B) := fun x hx => by rw [← hB]; exact (ho.base x hx).2
      have hAB : A < B := by rw [← hB]; exact Z3.out.lt
      have hwB : w.heap.size ≤ B := by rw [← hB]; exact Q3.out.size
      have hBs : B ≤ w3.heap.size := Nat.le_of_eq hB.symm
      clear q ho z0 z1 zl zf hB
      go_wp2_with fail
      go_loopw [6, 7] (fun o i wr => ∃ a c, ∃ j : Nat, j ≤ n ∧ i = .int .i64 j ∧ o = .slice a (octL 2 (L.take j)).length c ∧ Own wr B 5 a (octL 2 (L.take j)).length c (octL 2 (L.take j)) ∧ Blk wr A 23 #[.int .i64 k, .string ⟨s.toArray⟩] ∧ Uk .i64 wr a3 n c3 L ∧ Below w.heap.size w wr ∧ B ≤ wr.heap.size) (fun _ i _ => n - (intOf i).toNat)
      case atStart => exact ⟨none, 0, 0, Nat.zero_le _, rfl, rfl, World.ownsRow_nil _ _ _ _, Z3.out, M3.out, Q3.out, hBs⟩
      case round =>
        obtain ⟨a, c, j, hj, rfl, rfl, ho, hzb, hm, hq, hsz⟩ := hrel
        have O4 := Lib.hid ho
        have Z4 := Lib.hid hzb
        have M4 := Lib.hid hm
        have Q4 := Lib.hid hq
        clear ho hzb hm hq
        have hj0 : (0 : Int) ≤ j := by omega
        by_cases hlt : j < n
        · have hlt2 : (j : Int) < n := by omega
          have hjL : j < L.length := by have := HN.out; omega
          obtain ⟨mb, mo, hml, rfl, hmb, hmc⟩ := M4.out.at_ hlt
          have hfit := HFIT.out L[j] (List.getElem_mem hjL)
          have HST := Lib.hid (octL_take (w := 2) hjL)
          have hle := octL_le (w := 2) (L.take j)
          rw [List.length_take] at hle
          obtain ⟨x, hx⟩ : ∃ x, L[j] = x := ⟨_, rfl⟩
          simp only [hx] at HST hmc hfit
          obtain ⟨N, hNN⟩ : ∃ N, (octL 2 (L.take j)).length = N := ⟨_, rfl⟩
          have HNN := Lib.hid hNN
          rw [hNN] at O4 hle ⊢
          have hN9 : N ≤ 400000 := by omega
          clear hx hml hjL hNN hle
          obtain ⟨z0, z1, zl, zf⟩ := Z4.out.cells2
          have hx16 : x < 65536 := by simpa using hfit.2.1
          have e0 := by8_int (n := x / 256) (z := (x : Int) / 256) (by omega) (by omega)
          have e1 := by8_int (n := x % 256) (z := (x : Int) % 256) (by omega) (by omega)
          have r1 : (x : Int).tmod 256 = ((by8 (x % 256)).toNat : Int) := by rw [Int.tmod_eq_emod_of_nonneg (by omega)]; exact e1
          have HLN : Hid ((octL 2 (L.take (j + 1))).length = N + 2) := by rw [Hid, HST.out, List.length_append, HNN.out, octW_2]; rfl
          rw [octW_2] at HST
          generalize by8 (x / 256) = b0 at *
          have y0 := byte_bd b0
          have u0 := u8_wrap b0
          have v0 : IntKind.i64.wrap (b0.toNat : Int) = b0.toNat := wrap_big (by omega) (by omega)
          generalize by8 (x % 256) = b1 at *
          have y1 := byte_bd b1
          have u1 := u8_wrap b1
          have v1 : IntKind.i64.wrap (b1.toNat : Int) = b1.toNat := wrap_big (by omega) (by omega)
          have SX := Lib.hid ((lit2 (w := wr) b0 b1).bs.drew)
          have OX := Lib.hid (O4.out.below ((Below.refl _ wr).alloc (Nat.le_refl _) (.cells #[.int .u8 b0.toNat, .int .u8 b1.toNat] 5)).drew)
          have ZX := Lib.hid ((Z4.out.alloc (.cells #[.int .u8 b0.toNat, .int .u8 b1.toNat] 5)).drewN 1)
          have MX := Lib.hid (M4.out.below ((Below.refl _ wr).alloc (Nat.le_refl _) (.cells #[.int .u8 b0.toNat, .int .u8 b1.toNat] 5)).drew)
          have QX := Lib.hid (bal Q4.out (.cells #[.int .u8 b0.toNat, .int .u8 b1.toNat] 5)).drew
          have HSZ : B ≤ (wr.alloc (.cells #[.int .u8 b0.toNat, .int .u8 b1.toNat] 5)).drew.heap.size := by simp; omega
          clear hfit
          go_wp2_with fail
          with_reducible refine (HW2.out _).mono ?_
          rintro e w' ⟨rfl, rfl⟩
          go_wp2_with fail
          go_region_law (first | (refine step_app _ rfl _ _ 25 rfl B 5 i0 Tryd.underlying25 hi hz0 hz1 hz2 a N c _ rfl OX.out _ 2 2 _ rfl SX.out (by omega) HSZ ?_; intro a5 c5 w5 ho5 hg5))
          all_goals
            have B5 := Lib.hid (app_below (OX.out) hg5 (Nat.le_refl _) HSZ)
            have Q5 : Hid (Below w.heap.size w w5) := QX.out.trans (B5.out.mono hwB)
            have Z5 := Lib.hid (ZX.out.below B5.out hAB)
            have M5 := Lib.hid (uk_belowB MX.out B5.out HMB.out)
            have O5 := Lib.hid ho5
            have hs5 : B ≤ w5.heap.size := by have := B5.out.size; have := HSZ; omega
            clear ho5 hg5 B5
            go_wp2
            go_roundw
            case rel => exact ⟨a5, c5, j + 1, by omega, by go_num, by rw [HLN.out], by rw [HLN.out, HST.out]; exact O5.out, Z5.out, M5.out, Q5.out, hs5⟩
            case measure => simp [intOf]; omega
        · obtain rfl : j = n := by omega
          have hlt2 : ¬ (j : Int) < j := by omega
          have e : L.take j = L := List.take_of_length_le (by have := HN.out; omega)
          rw [e] at O4 ⊢
          go_wp2_with fail
          go_ret2
          exact ⟨a, c, rfl, O4.out.more hwB, Q4.out⟩
    · have HW2 := Lib.hid (fun w => HW.out w)
      go_enter Tryd.func10, Tryd.ntmps10
      go_wp2_with fail
      generalize w.alloc (.cells #[.int .i64 k, .string ⟨s.toArray⟩] 23) = w1 at *
      clear hA
      with_reducible refine (HV.out _).mono ?_
      rintro e w2 ⟨rfl, q⟩
      have Q2 := Lib.hid (bthen Q1.out q)
      have Z2 := Lib.hid (Z1.out.below q Z1.out.lt)
      clear q
      obtain ⟨z0, z1, zl, zf⟩ := Z2.out.cells2
      go_wp2_with fail
      with_reducible refine (HP.out _).mono ?_
      rintro e w3 ⟨a3, c3, rfl, ho, q⟩
      have Q3 := Lib.hid (bthen Q2.out q)
      have Z3 := Lib.hid (Z2.out.below q Z2.out.lt)
      obtain ⟨B, hB⟩ : ∃ B, w3.heap.size = B := ⟨_, rfl⟩
      have M3 := Lib.hid ho.uk
      have HMB : Hid (∀ x, a3 = some x → x.block < B) := fun x hx => by rw [← hB]; exact (ho.base x hx).2
      have hAB : A < B := by rw [← hB]; exact Z3.out.lt
      have hwB : w.heap.size ≤ B := by rw [← hB]; exact Q3.out.size
      have hBs : B ≤ w3.heap.size := Nat.le_of_eq hB.symm
      clear q ho z0 z1 zl zf hB
      go_wp2_with fail
      go_loopw [6, 7] (fun o i wr => ∃ a c, ∃ j : Nat, j ≤ n ∧ i = .int .i64 j ∧ o = .slice a (octL 4 (L.take j)).length c ∧ Own wr B 5 a (octL 4 (L.take j)).length c (octL 4 (L.take j)) ∧ Blk wr A 23 #[.int .i64 k, .string ⟨s.toArray⟩] ∧ Uk .i64 wr a3 n c3 L ∧ Below w.heap.size w wr ∧ B ≤ wr.heap.size) (fun _ i _ => n - (intOf i).toNat)
      case atStart => exact ⟨none, 0, 0, Nat.zero_le _, rfl, rfl, World.ownsRow_nil _ _ _ _, Z3.out, M3.out, Q3.out, hBs⟩
      case round =>
        obtain ⟨a, c, j, hj, rfl, rfl, ho, hzb, hm, hq, hsz⟩ := hrel
        have O4 := Lib.hid ho
        have Z4 := Lib.hid hzb
        have M4 := Lib.hid hm
        have Q4 := Lib.hid hq
        clear ho hzb hm hq
        have hj0 : (0 : Int) ≤ j := by omega
        by_cases hlt : j < n
        · have hlt2 : (j : Int) < n := by omega
          have hjL : j < L.length := by have := HN.out; omega
          obtain ⟨mb, mo, hml, rfl, hmb, hmc⟩ := M4.out.at_ hlt
          have hfit := HFIT.out L[j] (List.getElem_mem hjL)
          have HST := Lib.hid (octL_take (w := 4) hjL)
          have hle := octL_le (w := 4) (L.take j)
          rw [List.length_take] at hle
          obtain ⟨x, hx⟩ : ∃ x, L[j] = x := ⟨_, rfl⟩
          simp only [hx] at HST hmc hfit
          obtain ⟨N, hNN⟩ : ∃ N, (octL 4 (L.take j)).length = N := ⟨_, rfl⟩
          have HNN := Lib.hid hNN
          rw [hNN] at O4 hle ⊢
          have hN9 : N ≤ 400000 := by omega
          clear hx hml hjL hNN hle
          obtain ⟨z0, z1, zl, zf⟩ := Z4.out.cells2
          have hx16 : x ≤ 1114111 := hfit.2.2
          have e1 := by8_int (n := x / 65536) (z := (x : Int) / 65536) (by omega) (by omega)
          have e2 := by8_int (n := x / 256 % 256) (z := (x : Int) / 256 % 256) (by omega) (by omega)
          have e3 := by8_int (n := x % 256) (z := (x : Int) % 256) (by omega) (by omega)
          have r3 : (x : Int).tmod 256 = ((by8 (x % 256)).toNat : Int) := by rw [Int.tmod_eq_emod_of_nonneg (by omega)]; exact e3
          have wd : IntKind.i64.wrap ((x : Int) / 256) = (x : Int) / 256 := wrap_big (by omega) (by omega)
          have r2 : ((x : Int) / 256).tmod 256 = ((by8 (x / 256 % 256)).toNat : Int) := by rw [Int.tmod_eq_emod_of_nonneg (by omega)]; exact e2
          have HLN : Hid ((octL 4 (L.take (j + 1))).length = N + 4) := by rw [Hid, HST.out, List.length_append, HNN.out, octW_4]; rfl
          rw [octW_4] at HST
          generalize by8 (x / 65536) = b1 at *
          have y1 := byte_bd b1
          have u1 := u8_wrap b1
          have v1 : IntKind.i64.wrap (b1.toNat : Int) = b1.toNat := wrap_big (by omega) (by omega)
          generalize by8 (x / 256 % 256) = b2 at *
          have y2 := byte_bd b2
          have u2 := u8_wrap b2
          have v2 : IntKind.i64.wrap (b2.toNat : Int) = b2.toNat := wrap_big (by omega) (by omega)
          generalize by8 (x % 256) = b3 at *
          have y3 := byte_bd b3
          have u3 := u8_wrap b3
          have v3 : IntKind.i64.wrap (b3.toNat : Int) = b3.toNat := wrap_big (by omega) (by omega)
          have SX := Lib.hid ((lit4 (w := wr) 0 b1 b2 b3).bs.drew)
          have OX := Lib.hid (O4.out.below ((Below.refl _ wr).alloc (Nat.le_refl _) (.cells #[.int .u8 0, .int .u8 b1.toNat, .int .u8 b2.toNat, .int .u8 b3.toNat] 5)).drew)
          have ZX := Lib.hid ((Z4.out.alloc (.cells #[.int .u8 0, .int .u8 b1.toNat, .int .u8 b2.toNat, .int .u8 b3.toNat] 5)).drewN 1)
          have MX := Lib.hid (M4.out.below ((Below.refl _ wr).alloc (Nat.le_refl _) (.cells #[.int .u8 0, .int .u8 b1.toNat, .int .u8 b2.toNat, .int .u8 b3.toNat] 5)).drew)
          have QX := Lib.hid (bal Q4.out (.cells #[.int .u8 0, .int .u8 b1.toNat, .int .u8 b2.toNat, .int .u8 b3.toNat] 5)).drew
          have HSZ : B ≤ (wr.alloc (.cells #[.int .u8 0, .int .u8 b1.toNat, .int .u8 b2.toNat, .int .u8 b3.toNat] 5)).drew.heap.size := by simp; omega
          clear hfit
          go_wp2_with fail
          with_reducible refine (HW2.out _).mono ?_
          rintro e w' ⟨rfl, rfl⟩
          go_wp2_with fail
          go_region_law (first | (refine step_app _ rfl _ _ 25 rfl B 5 i0 Tryd.underlying25 hi hz0 hz1 hz2 a N c _ rfl OX.out _ 4 4 _ rfl SX.out (by omega) HSZ ?_; intro a5 c5 w5 ho5 hg5))
          all_goals
            have B5 := Lib.hid (app_below (OX.out) hg5 (Nat.le_refl _) HSZ)
            have Q5 : Hid (Below w.heap.size w w5) := QX.out.trans (B5.out.mono hwB)
            have Z5 := Lib.hid (ZX.out.below B5.out hAB)
            have M5 := Lib.hid (uk_belowB MX.out B5.out HMB.out)
            have O5 := Lib.hid ho5
            have hs5 : B ≤ w5.heap.size := by have := B5.out.size; have := HSZ; omega
            clear ho5 hg5 B5
            go_wp2
            go_roundw
            case rel => exact ⟨a5, c5, j + 1, by omega, by go_num, by rw [HLN.out], by rw [HLN.out, HST.out]; exact O5.out, Z5.out, M5.out, Q5.out, hs5⟩
            case measure => simp [intOf]; omega
        · obtain rfl : j = n := by omega
          have hlt2 : ¬ (j : Int) < j := by omega
          have e : L.take j = L := List.take_of_length_le (by have := HN.out; omega)
          rw [e] at O4 ⊢
          go_wp2_with fail
          go_ret2
          exact ⟨a, c, rfl, O4.out.more hwB, Q4.out⟩
end Go.Proofs.YtkmpmphabohkkaaDoor
