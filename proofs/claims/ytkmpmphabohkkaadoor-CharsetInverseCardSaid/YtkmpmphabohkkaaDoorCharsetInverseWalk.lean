/-
  The walk of the law CharsetInverse.
-/
import Derived.Test.YtkmpmphabohkkaaDoorChAwake
namespace Go.Proofs.YtkmpmphabohkkaaDoor.charsetInverse
open Go.RowKit

theorem tdS_len (k : Int) (c : List UInt8) : (tdS k c).length ≤ 4 * c.length := by
  unfold tdS decT
  split
  · exact candU_len _ _
  · exact Nat.zero_le _
theorem td_ok {k : Int} {c : List UInt8} (h : tdC k c = 0) : vT k (tdS k c) = true ∧ teL k (tdS k c) = c ∧ teC k (tdS k c) = 0 ∧ tdK k c = k := by
  unfold tdC at h
  split at h
  · cases h
  split at h
  · rename_i h1
    obtain ⟨s, hs⟩ := Option.isSome_iff_exists.mp h1
    have h2 := decT_some hs
    unfold tdS tdK
    rw [hs]
    exact ⟨h2.1, h2.2.1, h2.2.2.1, rfl⟩
  · cases h
theorem tdC_three (k : Int) (c : List UInt8) : tdC k c = 0 ∨ tdC k c = 3 ∨ tdC k c = 6 := by
  unfold tdC
  split
  · exact .inr (.inl rfl)
  split
  · exact .inl rfl
  · exact .inr (.inr rfl)

set_option maxRecDepth 100000 in
set_option maxHeartbeats 4000000 in
theorem walk {w : World} (hWd : Wd w) {k : Int} {a : Option Addr} {n c : Nat} {l : List UInt8} (_ : (Lit.int IntKind.i64 k).wf = true) (b0 : Bs w a n c l) :
    Calls Tryd.prog 4 #[.int .i64 k, .slice a n c] w fun e w' => e = .returned (.bool true) ∧ Below w.heap.size w w' := by
  have HW := Lib.hid hWd
  clear hWd
  have HA := Lib.hid (fun v (hq : Below w.heap.size w v) => awakeCh_any v (HW.out.below hq))
  have hn := b0.len
  have hnm : (n : Int) ≤ 9223372036854775807 := by have := b0.2.1; have := b0.2.2.1; unfold maxLen at this; omega
  have Q1 := Lib.hid (Below.refl w.heap.size w)
  have B1 := Lib.hid b0
  by_cases hz : n ≤ 1000
  · have hz2 : ¬ (1000 : Int) < n := by omega
    have H1 := Lib.hid (fun v (hq : Below w.heap.size w v) a c (h : Bs v a n c l) => tdec_any k (HW.out.below hq) h (by omega))
    have H2 := Lib.hid (fun w a c (h : Bs w a n c l) => ref_tdec_any k h (by omega))
    have hl := tdS_len k l
    have H3 := Lib.hid (fun v (hq : Below w.heap.size w v) => tenc_any (tdK k l) (tdS k l) (by omega) v (HW.out.below hq))
    have HO := Lib.hid (fun h => td_ok (k := k) (c := l) h)
    have hc := tdC_three k l
    unfold tV at H1 H2 H3
    generalize tdS k l = S at *
    generalize tdK k l = K at *
    generalize tdC k l = C at *
    go_enter Tryd.func4, Tryd.ntmps4
    go_wp2_with fail
    with_reducible refine (HA.out _ Q1.out).mono ?_
    rintro e w2 ⟨rfl, q⟩
    have Q2 := Lib.hid (bthen Q1.out q)
    have B2 := Lib.hid (B1.out.below q)
    clear q 
    go_wp2_with fail
    with_reducible refine (H1.out _ Q2.out _ _ B2.out).mono ?_
    rintro e w3 ⟨rfl, q⟩
    have Q3 := Lib.hid (bthen Q2.out q)
    have B3 := Lib.hid (B2.out.below q)
    clear q 
    obtain ⟨G, hG⟩ : ∃ G, w3.heap.size = G := ⟨_, rfl⟩
    go_wp2_with fail
    have Q4 := Lib.hid (bal Q3.out (.cells #[.int .i64 K, .string ⟨S.toArray⟩] 23))
    have B4 := Lib.hid (B3.out.alloc (.cells #[.int .i64 K, .string ⟨S.toArray⟩] 23))
    have T4 := Lib.hid (Blk.new w3 23 #[.int .i64 K, .string ⟨S.toArray⟩])
    rw [hG] at T4
    generalize w3.alloc (.cells #[.int .i64 K, .string ⟨S.toArray⟩] 23) = w4 at *
    obtain ⟨t0, t1, tl, tf⟩ := T4.out.cells2
    with_reducible refine (H2.out _ _ _ B4.out).mono ?_
    rintro e w5 ⟨rfl, q⟩
    clear t0 t1 tl tf
    have Q5 := Lib.hid (bthen Q4.out q)
    have B5 := Lib.hid (B4.out.below q)
    have T5 := Lib.hid (T4.out.below q T4.out.lt)
    clear q 
    obtain ⟨t0, t1, tl, tf⟩ := T5.out.cells2
    obtain ⟨G2, hG2⟩ : ∃ G2, w5.heap.size = G2 := ⟨_, rfl⟩
    have tG2 := hltB tl hG2
    rcases hc with hc | hc | hc
    · obtain ⟨h1, h2, h3, rfl⟩ := HO.out hc
      subst hc
      rw [h2, h3, hn] at H3
      clear h1 h2 h3 HO
      go_wp2_with fail
      clear t0 t1 tl tf
      have Q6 := Lib.hid (bal Q5.out (.cells #[.int .i64 K, .string ⟨S.toArray⟩] 23))
      have B6 := Lib.hid (B5.out.alloc (.cells #[.int .i64 K, .string ⟨S.toArray⟩] 23))
      have T6 := Lib.hid (T5.out.alloc (.cells #[.int .i64 K, .string ⟨S.toArray⟩] 23))
      have U6 := Lib.hid (Blk.new w5 23 #[.int .i64 K, .string ⟨S.toArray⟩])
      rw [hG2] at U6
      generalize w5.alloc (.cells #[.int .i64 K, .string ⟨S.toArray⟩] 23) = w6 at *
      obtain ⟨t0, t1, tl, tf⟩ := T6.out.cells2
      obtain ⟨u0, u1, ul, uf⟩ := U6.out.cells2
      with_reducible refine (H3.out _ Q6.out).mono ?_
      rintro e w7 ⟨a7, c7, rfl, ho, q⟩
      clear t0 t1 tl tf u0 u1 ul uf
      have Q7 := Lib.hid (bthen Q6.out q)
      have B7 := Lib.hid (B6.out.below q)
      have T7 := Lib.hid (T6.out.below q T6.out.lt)
      have U7 := Lib.hid (U6.out.below q U6.out.lt)
      have E7 := Lib.hid (ho)
      clear q ho
      obtain ⟨t0, t1, tl, tf⟩ := T7.out.cells2
      obtain ⟨u0, u1, ul, uf⟩ := U7.out.cells2
      have HB := Lib.hid (bytes_any E7.out B7.out)
      rw [eqB_self] at HB
      go_wp2_with fail
      with_reducible refine HB.out.mono ?_
      rintro e w' ⟨rfl, rfl⟩
      go_wp2_with fail
      go_ret
      exact ⟨rfl, Q7.out⟩
    · subst hc
      go_wp2_with fail
      clear t0 t1 tl tf
      have Q6 := Lib.hid (bal Q5.out (.cells #[.int .i64 K, .string ⟨S.toArray⟩] 23))
      have B6 := Lib.hid (B5.out.alloc (.cells #[.int .i64 K, .string ⟨S.toArray⟩] 23))
      have T6 := Lib.hid (T5.out.alloc (.cells #[.int .i64 K, .string ⟨S.toArray⟩] 23))
      have U6 := Lib.hid (Blk.new w5 23 #[.int .i64 K, .string ⟨S.toArray⟩])
      rw [hG2] at U6
      generalize w5.alloc (.cells #[.int .i64 K, .string ⟨S.toArray⟩] 23) = w6 at *
      obtain ⟨t0, t1, tl, tf⟩ := T6.out.cells2
      obtain ⟨u0, u1, ul, uf⟩ := U6.out.cells2
      go_ret
      exact ⟨rfl, Q6.out⟩
    · subst hc
      go_wp2_with fail
      clear t0 t1 tl tf
      have Q6 := Lib.hid (bal Q5.out (.cells #[.int .i64 K, .string ⟨S.toArray⟩] 23))
      have B6 := Lib.hid (B5.out.alloc (.cells #[.int .i64 K, .string ⟨S.toArray⟩] 23))
      have T6 := Lib.hid (T5.out.alloc (.cells #[.int .i64 K, .string ⟨S.toArray⟩] 23))
      have U6 := Lib.hid (Blk.new w5 23 #[.int .i64 K, .string ⟨S.toArray⟩])
      rw [hG2] at U6
      generalize w5.alloc (.cells #[.int .i64 K, .string ⟨S.toArray⟩] 23) = w6 at *
      obtain ⟨t0, t1, tl, tf⟩ := T6.out.cells2
      obtain ⟨u0, u1, ul, uf⟩ := U6.out.cells2
      go_ret
      exact ⟨rfl, Q6.out⟩
  · have hz2 : (1000 : Int) < n := by omega
    go_enter Tryd.func4, Tryd.ntmps4
    go_wp2_with fail
    with_reducible refine (HA.out _ Q1.out).mono ?_
    rintro e w2 ⟨rfl, q⟩
    have Q2 := Lib.hid (bthen Q1.out q)
    have B2 := Lib.hid (B1.out.below q)
    clear q 
    go_wp2_with fail
    with_reducible refine (HA.out _ Q2.out).mono ?_
    rintro e w3 ⟨rfl, q⟩
    have Q3 := Lib.hid (bthen Q2.out q)
    have B3 := Lib.hid (B2.out.below q)
    clear q 
    go_wp2_with fail
    go_ret
    exact ⟨rfl, Q3.out⟩
end Go.Proofs.YtkmpmphabohkkaaDoor.charsetInverse
