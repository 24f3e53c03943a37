/-
  Contracts of Encode, of the program and of the reference.
-/
import Derived.Test.YtfflfahhfhnkdaaBitLen
import Derived.Test.YtfflfahhfhnkdaaConcat
import Derived.Test.YtfflfahhfhnkdaaLit
namespace Go.Proofs.Ytfflfahhfhnkdaa
open Go.RowKit

/-- what Encode returns: octets, a code -/
def ebL (l : List UInt8) (u : Int) : List UInt8 := if vB l u = true then UInt8.ofNat u.toNat :: l else []
def ebC (l : List UInt8) (u : Int) : Nat := if vB l u = true then 0 else 8
theorem eb_yes {l : List UInt8} {u : Int} (h : vB l u = true) : ebL l u = UInt8.ofNat u.toNat :: l ∧ ebC l u = 0 := ⟨if_pos h, if_pos h⟩
theorem eb_no {l : List UInt8} {u : Int} (h : vB l u = false) : ebL l u = [] ∧ ebC l u = 8 := ⟨if_neg (by rw [h]; decide), if_neg (by rw [h]; decide)⟩
theorem brows {W : World} {b : Nat} {s0 s1 : Sl} {t : TypeId} (h : Blk W b t #[.slice s0.a s0.n s0.c, .slice s1.a s1.n s1.c]) (h0 : Bs W s0.a s0.n s0.c s0.l) (h1 : Bs W s1.a s1.n s1.c s1.l) : Rows W b [s0, s1] := by
  intro i hi
  rcases i with _ | _ | i
  · exact ⟨h.cell 0, h0⟩
  · exact ⟨h.cell 1, h1⟩
  · simp only [List.length_cons, List.length_nil] at hi; omega
theorem byte_u {u : Int} (h0 : 0 ≤ u) (h7 : u ≤ 7) : u = (UInt8.ofNat u.toNat).toNat := by
  rw [byte_nat (by omega)]
  omega

set_option maxRecDepth 100000 in
set_option maxHeartbeats 2000000 in
theorem benc_any {w : World} {a : Option Addr} {n c : Nat} {l : List UInt8} (h : Bs w a n c l) (u : Int) (hz : n ≤ 1000000) :
    Calls Try.prog 10 #[bV a n c u] w fun e w' => ∃ a' c', e = .returned (.tuple #[.slice a' (ebL l u).length c', .int .i64 (ebC l u)]) ∧ Own w' w.heap.size 5 a' (ebL l u).length c' (ebL l u) ∧ Below w.heap.size w w' := by
  unfold bV
  have HX := Lib.hid h
  have HL := Lib.hid h.len
  have HV := Lib.hid (bvalid_any (h.alloc (.cells #[.slice a n c, .int .i64 u] 24)) u)
  unfold bV at HV
  clear h
  rcases hv : vB l u with _ | _
  · rw [hv] at HV
    rw [(eb_no hv).1, (eb_no hv).2]
    clear hv
    go_enter Try.func10, Try.ntmps10
    go_wp2_with fail
    with_reducible refine HV.out.mono ?_
    rintro e w1 ⟨rfl, q⟩
    have QN := Lib.hid (bthen (bal (Below.refl _ _) _) q)
    clear q
    go_wp2_with fail
    go_ret2
    exact ⟨none, 0, rfl, World.ownsRow_nil _ _ _ _, QN.out⟩
  · rw [hv] at HV
    rw [(eb_yes hv).1, (eb_yes hv).2]
    obtain ⟨hu1, hu2, _⟩ := vB_true.1 hv
    have Z := Lib.hid (Blk.new w 24 #[.slice a n c, .int .i64 u])
    obtain ⟨x, hx, hu⟩ : ∃ x : UInt8, UInt8.ofNat u.toNat = x ∧ u = (x.toNat : Int) := ⟨_, rfl, byte_u hu1 hu2⟩
    rw [hx]
    clear hv hx
    subst hu
    go_enter Try.func10, Try.ntmps10
    go_wp2_with fail
    with_reducible refine HV.out.mono ?_
    rintro e w1 ⟨rfl, q⟩
    have QN := Lib.hid (bthen (bal (Below.refl _ _) _) q)
    have X1 := Lib.hid (HX.out.below QN.out)
    have z0 := (Z.out.below q (by simp)).cell 0
    have z1 := (Z.out.below q (by simp)).cell 1
    have zl := (Z.out.below q (by simp)).lt
    simp only [List.getElem?_toArray, List.getElem?_cons_zero, List.getElem?_cons_succ] at z0 z1
    have L1 := Lib.hid (bs_lit w1 5 #[.int .u8 x.toNat] [x] 1 rfl rfl (by decide))
    have R1 := Lib.hid (brows (s0 := ⟨some ⟨w1.heap.size, 0, none⟩, 1, 1, [x]⟩) (s1 := ⟨a, n, c, l⟩) (by simpa using Blk.new (w1.alloc (.cells #[.int .u8 x.toNat] 5)) 22 #[.slice (some ⟨w1.heap.size, 0, none⟩) 1 1, .slice a n c]) (L1.out.alloc _) ((X1.out.alloc _).alloc _))
    have ht : Hid (tot [⟨some ⟨w1.heap.size, 0, none⟩, 1, 1, [x]⟩, ⟨a, n, c, l⟩] = 1 + n) := by show _ = _; simp [tot]
    have hcat : Hid (cat [⟨some ⟨w1.heap.size, 0, none⟩, 1, 1, [x]⟩, ⟨a, n, c, l⟩] = x :: l) := by show _ = _; simp [cat]
    have HC := Lib.hid (concat_any R1.out (by simp) (by rw [ht.out]; omega) (by simp))
    rw [ht.out, hcat.out] at HC
    have hsz := QN.out.size
    have HLL : Hid (1 + n = (x :: l).length) := by show _ = _; rw [List.length_cons, HL.out]; omega
    rw [HLL.out] at HC
    clear ht hcat q
    go_wp2_with fail
    refine HC.out.mono ?_
    rintro e w2 ⟨a2, c2, rfl, ho, q⟩
    have O2 := Lib.hid (ho.more (B' := w.heap.size) (by simp; omega))
    have B2 := Lib.hid (bthen (bal (bal QN.out _) _) q)
    clear ho q HC
    go_wp2
    go_ret2
    exact ⟨a2, c2, rfl, O2.out, B2.out⟩

set_option maxRecDepth 100000 in
set_option maxHeartbeats 2000000 in
theorem ref_benc_any {w : World} {a : Option Addr} {n c : Nat} {l : List UInt8} (h : Bs w a n c l) (u : Int) (hz : n ≤ 1000000) :
    Calls Try.prog 11 #[bV a n c u] w fun e w' => ∃ a' c', e = .returned (.tuple #[.slice a' (ebL l u).length c', .int .i64 (ebC l u)]) ∧ Own w' w.heap.size 5 a' (ebL l u).length c' (ebL l u) ∧ Below w.heap.size w w' := by
  unfold bV
  have HX := Lib.hid h
  have HL := Lib.hid h.len
  have HV := Lib.hid (ref_bvalid_any (h.alloc (.cells #[.slice a n c, .int .i64 u] 24)) u)
  unfold bV at HV
  obtain ⟨i0, hi, hz0, hz1, hz2⟩ := info_parts info_u8
  clear h
  rcases hv : vB l u with _ | _
  · rw [hv] at HV
    rw [(eb_no hv).1, (eb_no hv).2]
    clear hv
    go_enter Try.func11, Try.ntmps11
    go_wp2_with fail
    with_reducible refine HV.out.mono ?_
    rintro e w1 ⟨rfl, q⟩
    have QN := Lib.hid (bthen (bal (Below.refl _ _) _) q)
    clear q
    go_wp2_with fail
    go_ret2
    exact ⟨none, 0, rfl, World.ownsRow_nil _ _ _ _, QN.out⟩
  · rw [hv] at HV
    rw [(eb_yes hv).1, (eb_yes hv).2]
    obtain ⟨hu1, hu2, _⟩ := vB_true.1 hv
    have Z := Lib.hid (Blk.new w 24 #[.slice a n c, .int .i64 u])
    obtain ⟨x, hx, hu⟩ : ∃ x : UInt8, UInt8.ofNat u.toNat = x ∧ u = (x.toNat : Int) := ⟨_, rfl, byte_u hu1 hu2⟩
    rw [hx]
    clear hv hx
    subst hu
    have HLL : Hid (1 + n = (x :: l).length) := by show _ = _; rw [List.length_cons, HL.out]; omega
    rw [← HLL.out]
    go_enter Try.func11, Try.ntmps11
    go_wp2_with fail
    with_reducible refine HV.out.mono ?_
    rintro e w1 ⟨rfl, q⟩
    have QN := Lib.hid (bthen (bal (Below.refl _ _) _) q)
    have X1 := Lib.hid (HX.out.below QN.out)
    have z0 := (Z.out.below q (by simp)).cell 0
    have z1 := (Z.out.below q (by simp)).cell 1
    have zl := (Z.out.below q (by simp)).lt
    simp only [List.getElem?_toArray, List.getElem?_cons_zero, List.getElem?_cons_succ] at z0 z1
    have L1 := Lib.hid (own_lit (w := w1) (B := w.heap.size) 5 #[.int .u8 x.toNat] [x] 1 rfl rfl (by decide) QN.out.size)
    have hsz := QN.out.size
    clear q
    go_wp2_with (at_builtin; go_must (refine wpList_app _ rfl _ _ 22 rfl w.heap.size 5 i0 Try.underlying22 hi hz0 hz1 hz2 _ 1 1 [x] rfl L1.out a n c l rfl (X1.out.alloc _) (by omega) (by simp; omega) ?_))
    intro a3 c3 w3 ho3 hg3
    have Q3 := Lib.hid ((bal QN.out _).trans (app_below L1.out hg3 (Nat.le_refl _) (by simp; omega)))
    have O3 := Lib.hid ho3
    clear ho3 hg3
    go_wp2
    go_ret2
    exact ⟨a3, c3, rfl, O3.out, Q3.out⟩
end Go.Proofs.Ytfflfahhfhnkdaa
