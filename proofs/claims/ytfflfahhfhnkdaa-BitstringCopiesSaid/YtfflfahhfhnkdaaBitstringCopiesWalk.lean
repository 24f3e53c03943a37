/-
  The walk of the law BitstringCopies.
-/
import Derived.Test.YtfflfahhfhnkdaaBitAwake
import Derived.Test.YtfflfahhfhnkdaaBitSame
import Derived.Test.YtfflfahhfhnkdaaBitDecRef
import Derived.Test.YtfflfahhfhnkdaaRel
namespace Go.Proofs.Ytfflfahhfhnkdaa.bitstringCopies
open Go.RowKit

theorem bits_eb (l : List UInt8) : ebC (bitsOf l).1 (bitsOf l).2 = 0 := by
  rcases h : insOk l with _ | _
  · rw [(bitsOf_no h).1]
    exact (eb_yes vB_nil).2
  · rw [(bitsOf_yes h).1]
    exact (eb_yes (ins_valid h).2).2
theorem bits_len (l : List UInt8) : (bitsOf l).1.length ≤ l.length := by
  rcases h : insOk l with _ | _
  · rw [(bitsOf_no h).1]
    exact Nat.zero_le _
  · rw [(bitsOf_yes h).1]
    unfold insB
    simp
theorem dbC_two (l : List UInt8) : dbC l = 0 ∨ dbC l = 6 := by
  rcases h : insOk l with _ | _
  · exact .inr (bitsOf_no h).2
  · exact .inl (bitsOf_yes h).2

set_option maxRecDepth 100000 in
set_option maxHeartbeats 4000000 in
theorem walk {w : World} {a : Option Addr} {n c : Nat} {l : List UInt8} (b0 : Bs w a n c l) :
    Calls Try.prog 8 #[.slice a n c] w fun e w' => e = .returned (.bool true) ∧ Below w.heap.size w w' := by
  have HA := Lib.hid (fun w => awakeBit_any w)
  have hn := b0.len
  have hnm : (n : Int) ≤ 9223372036854775807 := by have := b0.2.1; have := b0.2.2.1; unfold maxLen at this; omega
  have X := Lib.hid b0
  have Q0 := Lib.hid (Below.refl w.heap.size w)
  clear b0
  by_cases hz : n ≤ 2000
  · have hz2 : ¬ (2000 : Int) < n := by omega
    have H1 := Lib.hid (fun w a c (h : Bs w a n c l) => bdec_any h (by omega))
    have H2 := Lib.hid (fun w a c (h : Bs w a n c l) => ref_bdec_part h)
    have hrl := bits_len l
    have hCE := bits_eb l
    have hC := dbC_two l
    have HXB : Hid (∀ y, a = some y → 0 < n → y.block < w.heap.size) := fun y hy h0 => by
      obtain ⟨b, off, e, hb, _⟩ := X.out.2.2.2 h0
      rw [hy] at e
      injection e with e
      subst e
      exact hb
    unfold bV at H1 H2
    generalize (bitsOf l).1 = r at *
    generalize (bitsOf l).2 = U at *
    generalize dbC l = C at *
    have H3 := Lib.hid (fun w a c (h : Bs w a r.length c r) => benc_any h (U : Int) (by omega))
    rw [hCE] at H3
    unfold bV at H3
    have hel : (ebL r U).length ≤ 3000 := by
      unfold ebL
      split
      · rw [List.length_cons]; omega
      · simp
    generalize ebL r U = E at *
    obtain ⟨LE, hLE⟩ : ∃ LE, E.length = LE := ⟨_, rfl⟩
    rw [hLE] at H3 hel
    have H4 := Lib.hid (fun w a b c d (hx : Bs w a r.length c r) (hy : Bs w b r.length d r) => bits_self (u := (U : Int)) hx hy)
    unfold bV at H4
    obtain ⟨i0, hi, hz0, hz1, hz3⟩ := info_parts info_u8
    have hn2 : (n : Int) ≤ 2000 := by omega
    have hel2 : (LE : Int) ≤ 3000 := by omega
    clear hCE hLE hn hrl
    go_enter Try.func8, Try.ntmps8
    go_wp2_with fail
    with_reducible refine (HA.out _).mono ?_
    rintro e w1 ⟨rfl, q⟩
    have Q1 := Lib.hid q
    clear q
    go_wp2_with (at_builtin; go_must (refine wpList_app _ rfl _ _ 22 rfl w1.heap.size 5 i0 Try.underlying22 hi hz0 hz1 hz3 (some ⟨w1.heap.size, 0, none⟩) 0 0 [] rfl (own_made w1 _) a n c l rfl ((X.out.below Q1.out).alloc _) ?c1 ?c2 ?_))
    case c1 => omega
    case c2 => simp
    intro a2 c2 w2 ho2 hg2
    have D2 : Hid (Below w1.heap.size w1 w2) := (bal (Below.refl _ _) _).trans (app_below (own_made w1 _) hg2 (Nat.le_refl _) (by simp))
    have O2 := Lib.hid ho2
    have Q2 := Lib.hid (bthen Q1.out D2.out)
    obtain ⟨B2, hB2⟩ : ∃ B2, w2.heap.size = B2 := ⟨_, rfl⟩
    have N2 : Hid (∀ x, a2 = some x → w.heap.size ≤ x.block ∧ x.block < B2) := fun x hx => by have := ho2.base x hx; have := Q1.out.size; omega
    clear ho2 hg2 D2
    have hc3 := H1.out _ _ _ O2.out.bs
    go_wp2_with fail
    with_reducible refine hc3.mono ?_
    rintro e w3 ⟨a3, c3, rfl, ho, q⟩
    have Q3 := Lib.hid (bthen Q2.out q)
    have O3 := Lib.hid (O2.out.below q)
    obtain ⟨P, hP⟩ : ∃ P, w3.heap.size = P := ⟨_, rfl⟩
    have hBP : B2 ≤ P := by have := q.size; omega
    have Y3 : Hid (Own w3 B2 5 a3 r.length c3 r) := ho.more (by omega)
    have NY : Hid (∀ x, a3 = some x → B2 ≤ x.block ∧ x.block < P) := fun x hx => by have := Y3.out.base x hx; omega
    clear q ho hc3 O2 Q2
    go_wp2_with fail
    have Q4 := Lib.hid (bal Q3.out (.cells #[.slice a3 r.length c3, .int .i64 (U : Int)] 24))
    have O4 := Lib.hid (O3.out.below (bal (Below.refl _ w3) (.cells #[.slice a3 r.length c3, .int .i64 (U : Int)] 24)))
    have Y4 := Lib.hid (Y3.out.below (bal (Below.refl _ w3) (.cells #[.slice a3 r.length c3, .int .i64 (U : Int)] 24)))
    have Z4 := Lib.hid (Blk.new w3 24 #[.slice a3 r.length c3, .int .i64 (U : Int)])
    rw [hP] at Z4
    generalize w3.alloc (.cells #[.slice a3 r.length c3, .int .i64 (U : Int)] 24) = w4 at *
    obtain ⟨z0, z1, zl, zf⟩ := Z4.out.cells2
    obtain ⟨B4, hB4⟩ : ∃ B4, w4.heap.size = B4 := ⟨_, rfl⟩
    have hPB : P < B4 := by rw [← hB4]; exact Z4.out.lt
    have hwB : w.heap.size ≤ B4 := by have := Q4.out.size; omega
    have HE5 := Lib.hid (H3.out _ _ _ Y4.out.bs)
    with_reducible refine (HE5.out).mono ?_
    rintro e w5 ⟨a5, c5, rfl, ho, q⟩
    clear z0 z1 zl zf
    have Q5 := Lib.hid (bthen Q4.out q)
    have O5 := Lib.hid (O4.out.below q)
    have Y5 := Lib.hid (Y4.out.below q)
    have Z5 := Lib.hid (Z4.out.below q Z4.out.lt)
    have E5 := Lib.hid (ho)
    clear q HE5
    obtain ⟨z0, z1, zl, zf⟩ := Z5.out.cells2
    rw [hB4] at E5
    clear ho
    have N5 : Hid (∀ x, a5 = some x → B4 ≤ x.block ∧ x.block < w5.heap.size) := fun x hx => E5.out.base x hx
    have hs5 := Q5.out.size
    go_wp2_with fail
    go_loopw [8] (fun i wr => ∃ k : Nat, k ≤ n ∧ i = .int .i64 k ∧ Rel w5 w1.heap.size a2 n c2 wr) (fun i _ => n - (intOf i).toNat)
    case atStart => exact ⟨0, Nat.zero_le _, rfl, ⟨_, O5.out⟩, only_refl _ _⟩
    case round =>
      obtain ⟨k, hk, rfl, ⟨l1, ho⟩, hg⟩ := hrel
      have O := Lib.hid ho
      have G := Lib.hid hg
      clear ho hg
      have hk0 : (0 : Int) ≤ k := by omega
      by_cases hlt : k < n
      · have hlt2 : (k : Int) < n := by omega
        obtain ⟨gb, rfl, hgb, hgb2⟩ := O.out.pos (by omega)
        have hl := O.out.bs.len
        have hc := O.out.cell (j := k) (by omega)
        have hf := O.out.frozen k
        obtain ⟨x, ex⟩ : ∃ x, l1[k]'(by omega) = x := ⟨_, rfl⟩
        rw [ex] at hc
        clear ex hl z0 z1 zl zf
        go_wp2
        rw [inc_byte x]
        refine ⟨⟨k + 1, by omega, by go_num, rel_set O.out G.out _⟩, by simp [intOf]; omega⟩
      · obtain rfl : k = n := by omega
        have hlt2 : ¬ (k : Int) < k := by omega
        clear z0 z1 zl zf
        have Y6 := Lib.hid (own_other Y5.out G.out (fun x y hx hy => by have := (NY.out x hx).1; have := (N2.out y hy).2; omega))
        have Z6 := Lib.hid (blk_other Z5.out G.out (fun y hy => by have := (N2.out y hy).2; omega))
        have E6 := Lib.hid (own_other E5.out G.out (fun x y hx hy => by have := (N5.out x hx).1; have := (N2.out y hy).2; omega))
        have Q6 := Lib.hid (below_other Q5.out G.out hs5 (fun y hy => (N2.out y hy).1))
        have hs6 := G.out.size
        clear Y5 Z5 E5 Q5 O5 O G
        generalize wr = w6 at *
        obtain ⟨z0, z1, zl, zf⟩ := Z6.out.cells2
        have HV := Lib.hid (H2.out _ _ _ (X.out.below Q6.out))
        go_wp2_with fail
        with_reducible refine (HV.out).mono ?_
        rintro e w7 ⟨a7, c7, rfl, ho, hpo, q⟩
        clear z0 z1 zl zf
        have Q7 := Lib.hid (bthen Q6.out q)
        have Y7 := Lib.hid (Y6.out.below q)
        have Z7 := Lib.hid (Z6.out.below q Z6.out.lt)
        have E7 := Lib.hid (E6.out.below q)
        have V7 := Lib.hid (ho)
        clear q ho HV
        obtain ⟨z0, z1, zl, zf⟩ := Z7.out.cells2
        have NV : Hid (∀ x, a7 = some x → x.block < w.heap.size) := fun x hx => by
          obtain ⟨y, hy, e, h0⟩ := hpo x hx
          rw [e]
          exact HXB.out y hy h0
        clear hpo
        obtain ⟨D, hD⟩ : ∃ D, w7.heap.size = D := ⟨_, rfl⟩
        have zD := hltB zl hD
        have hED : Hid (∀ x, a5 = some x → x.block < D) := fun x hx => by rw [← hD]; exact (E7.out.base x hx).2
        go_wp2_with fail
        clear z0 z1 zl zf
        have Q8 := Lib.hid (bal Q7.out (.cells #[.slice a7 r.length c7, .int .i64 (U : Int)] 24))
        have Y8 := Lib.hid (Y7.out.below (bal (Below.refl _ w7) (.cells #[.slice a7 r.length c7, .int .i64 (U : Int)] 24)))
        have Z8 := Lib.hid (Z7.out.alloc (.cells #[.slice a7 r.length c7, .int .i64 (U : Int)] 24))
        have E8 := Lib.hid (E7.out.below (bal (Below.refl _ w7) (.cells #[.slice a7 r.length c7, .int .i64 (U : Int)] 24)))
        have V8 := Lib.hid (V7.out.alloc (.cells #[.slice a7 r.length c7, .int .i64 (U : Int)] 24))
        have T8 := Lib.hid (Blk.new w7 24 #[.slice a7 r.length c7, .int .i64 (U : Int)])
        rw [hD] at T8
        generalize w7.alloc (.cells #[.slice a7 r.length c7, .int .i64 (U : Int)] 24) = w8 at *
        obtain ⟨z0, z1, zl, zf⟩ := Z8.out.cells2
        obtain ⟨y0, y1, yl, yf⟩ := T8.out.cells2
        with_reducible refine (H4.out _ _ _ _ _ Y8.out.bs V8.out).mono ?_
        rintro e w9 ⟨rfl, q⟩
        clear z0 z1 zl zf y0 y1 yl yf
        have Q9 := Lib.hid (bthen Q8.out q)
        have Y9 := Lib.hid (Y8.out.below q)
        have Z9 := Lib.hid (Z8.out.below q Z8.out.lt)
        have E9 := Lib.hid (E8.out.below q)
        have V9 := Lib.hid (V8.out.below q)
        have T9 := Lib.hid (T8.out.below q T8.out.lt)
        clear q 
        obtain ⟨z0, z1, zl, zf⟩ := Z9.out.cells2
        obtain ⟨y0, y1, yl, yf⟩ := T9.out.cells2
        have hs9 := Q9.out.size
        have NE9 : Hid (∀ x, a5 = some x → B4 ≤ x.block) := fun x hx => (N5.out x hx).1
        go_wp2_with fail
        go_loopw [11] (fun i wr => ∃ k : Nat, k ≤ LE ∧ i = .int .i64 k ∧ Rel w9 B4 a5 LE c5 wr) (fun i _ => LE - (intOf i).toNat)
        case atStart => exact ⟨0, Nat.zero_le _, rfl, ⟨_, E9.out⟩, only_refl _ _⟩
        case round =>
          obtain ⟨k2, hk2, rfl, ⟨l2, ho⟩, hg⟩ := hrel
          have O := Lib.hid ho
          have G := Lib.hid hg
          clear ho hg
          have hk0 : (0 : Int) ≤ k2 := by omega
          by_cases hltE : k2 < LE
          · have hlt3 : (k2 : Int) < LE := by omega
            obtain ⟨gb, rfl, hgb, hgb2⟩ := O.out.pos (by omega)
            have hl := O.out.bs.len
            have hc := O.out.cell (j := k2) (by omega)
            have hf := O.out.frozen k2
            obtain ⟨x, ex⟩ : ∃ x, l2[k2]'(by omega) = x := ⟨_, rfl⟩
            rw [ex] at hc
            clear ex hl z0 z1 zl zf y0 y1 yl yf
            go_wp2
            rw [inc_byte x]
            refine ⟨⟨k2 + 1, by omega, by go_num, rel_set O.out G.out _⟩, by simp [intOf]; omega⟩
          · obtain rfl : k2 = LE := by omega
            have hlt3 : ¬ (k2 : Int) < k2 := by omega
            clear z0 z1 zl zf y0 y1 yl yf
            have Y10 := Lib.hid (own_other Y9.out G.out (fun x y hx hy => by have := (NY.out x hx).2; have := NE9.out y hy; omega))
            have Z10 := Lib.hid (blk_other Z9.out G.out (fun y hy => by have := NE9.out y hy; omega))
            have T10 := Lib.hid (blk_other T9.out G.out (fun y hy => by have := hED.out y hy; omega))
            have HG : Hid (Below w.heap.size w9 wr) := below_other (Below.refl _ _) G.out hs9 (fun y hy => by have := NE9.out y hy; omega)
            have V10 := Lib.hid (bs_belowB V9.out HG.out NV.out)
            have Q10 := Lib.hid (Q9.out.trans HG.out)
            clear Y9 Z9 T9 V9 Q9 O G HG E9
            generalize wr = w10 at *
            obtain ⟨z0, z1, zl, zf⟩ := Z10.out.cells2
            obtain ⟨y0, y1, yl, yf⟩ := T10.out.cells2
            rcases hC with rfl | rfl
            · go_wp2_with fail
              with_reducible refine (H4.out _ _ _ _ _ Y10.out.bs V10.out).mono ?_
              rintro e w11 ⟨rfl, q⟩
              have Q11 := Lib.hid (bthen Q10.out q)
              clear q
              go_wp2_with fail
              go_ret
              exact ⟨rfl, Q11.out⟩
            · go_wp2_with fail
              go_ret
              exact ⟨rfl, Q10.out⟩
  · have hz2 : (2000 : Int) < n := by omega
    go_enter Try.func8, Try.ntmps8
    go_wp2_with fail
    with_reducible refine (HA.out _).mono ?_
    rintro e w1 ⟨rfl, q⟩
    have Q1 := Lib.hid (bthen Q0.out q)
    clear q 
    go_wp2_with fail
    with_reducible refine (HA.out _).mono ?_
    rintro e w2 ⟨rfl, q⟩
    have Q2 := Lib.hid (bthen Q1.out q)
    clear q 
    go_wp2_with fail
    go_ret
    exact ⟨rfl, Q2.out⟩
end Go.Proofs.Ytfflfahhfhnkdaa.bitstringCopies
