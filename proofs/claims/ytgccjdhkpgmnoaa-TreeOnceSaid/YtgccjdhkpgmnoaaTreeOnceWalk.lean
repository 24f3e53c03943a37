/-
  The walk of the law TreeOnce.
-/
import Derived.Test.YtgccjdhkpgmnoaaAwakeTree
import Derived.Test.YtgccjdhkpgmnoaaTreeParse2
namespace Go.Proofs.Ytgccjdhkpgmnoaa.treeOnce
open Go.RowKit

/-- equality of trees that are read is that of their octets -/
theorem eq_octets {t u : Tree} {l l' : List UInt8} {s s' : Nat} (h : parseT 16 l = .ok t s) (h' : parseT 16 l' = .ok u s') (hl : l.length ≤ 100000) : eqT t u = eqB l' l := by
  obtain ⟨h1, h2, h3, _⟩ := parseT_ok h
  obtain ⟨g1, g2, g3, _⟩ := parseT_ok h'
  rw [Bool.eq_iff_iff, eqT_iff, eqB_iff]
  constructor
  · rintro rfl
    rw [← h3, ← g3]
  · intro e
    exact tree_inj h1 g1 (by rw [h3]; omega) (by rw [h3, g3, e])
theorem siz_parsed {t : Tree} {l : List UInt8} {s : Nat} (h : parseT 16 l = .ok t s) : sizT t ≤ l.length := by
  have h1 := rdT_lim 16 l
  unfold parseT at h
  rcases hq : rdT 16 l with ⟨t', s'⟩ | ⟨c', o'⟩
  · rw [hq] at h1 h
    simp only at h1 h
    split at h
    · cases h
    · injection h with e1 e2
      subst e1
      omega
  · rw [hq] at h
    cases h

set_option maxRecDepth 100000 in
set_option maxHeartbeats 2000000 in
theorem walk {w : World} {a0 : Option Addr} {n0 c0 : Nat} {l0 : List UInt8} {x1 x2 : Int} (b0 : Bs w a0 n0 c0 l0) (wx1 : (Lit.int .u16 x1).wf = true) (wx2 : (Lit.int .u8 x2).wf = true) :
    Calls Try.prog 5 #[.slice a0 n0 c0, .int .u16 x1, .int .u8 x2] w fun e w' => e = .returned (.bool true) ∧ Below w.heap.size w w' := by
  have HA := Lib.hid (awakeTree_any)
  have HB0 := Lib.hid b0
  have hlen := b0.len
  have hcap := b0.2.1
  have hmx := b0.2.2.1
  unfold maxLen at hmx
  have hn9 : (n0 : Int) ≤ 9223372036854775807 := by omega
  have hx1 := bounds_u16 wx1
  have hx2 := bounds_u8 wx2
  obtain ⟨X1, rfl⟩ : ∃ X : Nat, x1 = X := ⟨x1.toNat, by omega⟩
  obtain ⟨y, rfl⟩ : ∃ y : UInt8, x2 = y.toNat := ⟨UInt8.ofNat x2.toNat, by rw [UInt8.toNat_ofNat']; omega⟩
  obtain ⟨i0, hi, hz0, hz1, hz2⟩ := info_parts info_u8
  clear wx1 wx2 hx2
  by_cases h00 : n0 = 0
  · have h0i : ((n0 : Int) == 0) = true := by simp [h00]
    have h0z : (n0 : Int) = 0 := by omega
    clear b0 HB0 hlen
    go_enter Try.func5, Try.ntmps5
    go_wp2_with fail
    refine (HA.out _).mono ?_
    rintro e w1 ⟨rfl, q1⟩
    have Q1 := Lib.hid q1
    clear q1
    go_wp2_with fail
    refine (HA.out _).mono ?_
    rintro e w2 ⟨rfl, q2⟩
    go_wp2_with fail
    go_ret
    exact ⟨rfl, bthen Q1.out q2⟩
  · have h0z : ((n0 : Int) == 0) = false := by simp; omega
    have h0p : (0 : Int) < n0 := by omega
    by_cases h0 : n0 ≤ 1500
    · have h0i : (n0 : Int) ≤ 1500 := by omega
      have HP1 := Lib.hid (fun w (h : Bs w a0 n0 c0 l0) => parse_any h (by omega))
      rcases hr : parseT 16 l0 with ⟨t, s⟩ | ⟨C, O⟩
      · rw [hr] at HP1
        unfold ParsePost erV at HP1
        simp only at HP1
        obtain ⟨hok, hdep, henc, _⟩ := parseT_ok hr
        have hsz := siz_parsed hr
        have HE := Lib.hid (fun (w : World) (R : Nat → Prop) (cs : List Value) (h : NdCs w R cs t) => encode_tree_good (by omega) (by rw [hok, decide_eq_true hdep]; rfl) h)
        rw [henc, hlen] at HE
        obtain ⟨J, hJ⟩ : ∃ J, Hid (X1 % n0 = J) := ⟨_, rfl⟩
        have hJn : J < n0 := by rw [← hJ.out]; exact Nat.mod_lt _ (by omega)
        have hJi : (X1 : Int) % n0 = J := by rw [← hJ.out]; omega
        have hJ0 : (0 : Int) ≤ J := by omega
        have hJ1 : (J : Int) < n0 := by omega
        have hX0 : (0 : Int) ≤ X1 := by omega
        have hX1 : (X1 : Int) ≤ 65535 := by omega
        have hol : (l0.set J y).length = n0 := by rw [List.length_set, hlen]
        have HP2 := Lib.hid (fun w a c (h : Bs w a n0 c (l0.set J y)) => parse_any h (by omega))
        have HQ := Lib.hid (fun u s' (h : parseT 16 (l0.set J y) = .ok u s') => eq_octets hr h (by omega))
        have HN := Lib.hid (fun (u : Tree) (w : World) (R R' : Nat → Prop) (cs cs' : List Value) (h : NdCs w R cs t) (h' : NdCs w R' cs' u) => node_any _ t u w R R' cs cs' (Nat.le_refl _) h h')
        have HR := Lib.hid hr
        have HL := Lib.hid hlen
        clear b0 hr hlen hok hdep henc hsz hol hx1
        go_enter Try.func5, Try.ntmps5
        go_wp2_with fail
        refine (HA.out _).mono ?_
        rintro e w1 ⟨rfl, q1⟩
        have Q1 := Lib.hid q1
        have X1' := Lib.hid (HB0.out.below q1)
        clear q1 HA
        go_wp2_with fail
        refine (HP1.out _ X1'.out).mono ?_
        rintro e w2 ⟨cs, rfl, hnd, q⟩
        cases t with
        | node c' n' k' l' ks' =>
        obtain ⟨a', m', d', ka', kn', kc', rfl, _⟩ := hnd.parts
        have U := Lib.hid (bal (bal (Below.refl _ w2) (.cells #[.int .i64 c', .int .i64 n', .bool k', .slice a' m' d', .slice ka' kn' kc'] 26)) (.cells #[.int .i64 0, .int .i64 0] 29))
        have X2 := Lib.hid ((X1'.out.below q).below U.out)
        have ND2 := Lib.hid (hnd.below U.out)
        have Q2 := Lib.hid (bthen (bthen Q1.out q) U.out)
        have N2 := Lib.hid ((Blk.new w2 26 #[.int .i64 c', .int .i64 n', .bool k', .slice a' m' d', .slice ka' kn' kc']).alloc (.cells #[.int .i64 0, .int .i64 0] 29))
        have HE2 := Lib.hid (HE.out _ _ _ ND2.out)
        clear q hnd X1' Q1 HP1 HE
        go_wp2_with fail
        refine HE2.out.mono ?_
        rintro e w3 ⟨a3, c3, rfl, ho3, q⟩
        have X3 := Lib.hid (X2.out.below q)
        have ND3 := Lib.hid ((ND2.out.below q).weak (R' := fun b => b < w3.heap.size) fun b hb _ => hb)
        have N3 := Lib.hid (N2.out.below q N2.out.lt)
        have A3 := Lib.hid ho3.bs
        have A3b := Lib.hid (fun x hx => (ho3.base x hx).2)
        have Q3 := Lib.hid (bthen Q2.out q)
        clear q ho3 X2 ND2 N2 Q2 HE2 U
        go_wp2_with (at_builtin; go_must (refine wpList_app _ rfl _ _ 22 rfl w3.heap.size 5 i0 Try.underlying22 hi hz0 hz1 hz2 (some ⟨w3.heap.size, 0, none⟩) 0 0 [] rfl (own_made w3 _) a0 n0 c0 l0 rfl (X3.out.alloc _) ?c1 ?c2 ?_))
        case c1 => omega
        case c2 => simp
        intro a4 c4 w4 ho4 hg4
        have D4 : Hid (Below w3.heap.size w3 w4) := (bal (Below.refl _ _) _).trans (app_below (own_made w3 _) hg4 (Nat.le_refl _) (by simp))
        obtain ⟨g, rfl, hg3, hgl⟩ := ho4.pos (by omega)
        have O4 := Lib.hid ho4
        have X4 := Lib.hid (X3.out.below D4.out)
        have ND4 := Lib.hid (ND3.out.below D4.out)
        have N4 := Lib.hid (N3.out.below D4.out N3.out.lt)
        have A4 := Lib.hid (A3.out.below D4.out)
        have Q4 := Lib.hid (bthen Q3.out D4.out)
        have hcell := ho4.cell (j := J) (by rw [HL.out]; exact hJn)
        have hfr := ho4.frozen J
        have O5 := Lib.hid (ho4.stored J y)
        have P5 : Hid (w4.grownBy (w4.setCell ⟨g, J, none⟩ (.int .u8 y.toNat)) (some g)) := only_setCell (g := g) (only_refl w4 _) (.inl rfl) _
        have hN3 := N3.out.lt
        have hw3 : ∀ b, b < w3.heap.size → b ≠ g := fun b hb => by omega
        have hq3 := Q3.out.size
        have hb0 : Hid (∀ x, a0 = some x → x.block ≠ g) := fun x hx => by
          obtain ⟨b, off, e, hlt, _⟩ := HB0.out.2.2.2 (by omega)
          rw [hx] at e
          injection e with e
          subst e
          simp only
          omega
        have X5 := Lib.hid (X4.out.only P5.out hb0.out)
        have ND5 := Lib.hid (ND4.out.only P5.out fun b hb e => by injection e with e; omega)
        have N5 := Lib.hid (N4.out.only P5.out (by omega))
        have A5 := Lib.hid (A4.out.only P5.out fun x hx => by have := A3b.out x hx; omega)
        have Q5 : Hid (Below w.heap.size w (w4.setCell ⟨g, J, none⟩ (.int .u8 y.toNat))) := Q4.out.setCell (by simp; omega) _
        have OB5 := Lib.hid O5.out.bs
        have HPB := Lib.hid (HP2.out _ _ _ OB5.out)
        clear ho4 hg4 D4 O4 X4 ND4 N4 A4 Q4 O5 P5 X3 ND3 N3 A3 Q3 HP2 hw3
        go_wp2_with fail
        rcases hr2 : parseT 16 (l0.set J y) with ⟨u, s2⟩ | ⟨C2, O2⟩
        · rw [hr2] at HPB
          have hq := HQ.out u s2 hr2
          have HNu := Lib.hid (HN.out u)
          rw [hq] at HNu
          unfold ParsePost erV at HPB
          simp only at HPB
          refine HPB.out.mono ?_
          rintro e w6 ⟨cs6, rfl, hnd, q⟩
          cases u with
          | node cu nu ku lu ksu =>
          obtain ⟨au, mu, du, kau, knu, kcu, rfl, _⟩ := hnd.parts
          have U6 := Lib.hid (bal (bal (Below.refl _ w6) (.cells #[.int .i64 cu, .int .i64 nu, .bool ku, .slice au mu du, .slice kau knu kcu] 26)) (.cells #[.int .i64 0, .int .i64 0] 29))
          have X6 := Lib.hid ((X5.out.below q).below U6.out)
          have A6 := Lib.hid ((A5.out.below q).below U6.out)
          have OB6 := Lib.hid ((OB5.out.below q).below U6.out)
          have ND6 := Lib.hid ((ND5.out.below q).below U6.out)
          have NU6 := Lib.hid (hnd.below U6.out)
          have N6 := Lib.hid (N5.out.below q N5.out.lt)
          have HBY := Lib.hid (bytes_any A6.out X6.out)
          rw [eqB_self] at HBY
          have HNN := Lib.hid (HNu.out _ _ _ _ _ ND6.out NU6.out)
          have Q6 := Lib.hid (bthen (bthen Q5.out q) U6.out)
          obtain ⟨n0', n1', n2', n3', n4', nl⟩ := five N6.out
          have HBZ := Lib.hid (fun W (h : Below ((w6.alloc (.cells #[.int .i64 cu, .int .i64 nu, .bool ku, .slice au mu du, .slice kau knu kcu] 26)).alloc (.cells #[.int .i64 0, .int .i64 0] 29)).heap.size ((w6.alloc (.cells #[.int .i64 cu, .int .i64 nu, .bool ku, .slice au mu du, .slice kau knu kcu] 26)).alloc (.cells #[.int .i64 0, .int .i64 0] 29)) W) => bytes_any (OB6.out.below h) (X6.out.below h))
          obtain ⟨Z, hZ⟩ : ∃ Z, Hid (eqB (l0.set J y) l0 = Z) := ⟨_, rfl⟩
          rw [hZ.out] at HNN HBZ
          clear q hnd X5 A5 ND5 N5 Q5 OB5 HPB HNu hZ hq
          go_wp2_with fail
          refine HBY.out.mono ?_
          rintro e w7 ⟨rfl, rfl⟩
          go_wp2_with fail
          refine HNN.out.mono ?_
          rintro e w8 ⟨rfl, q⟩
          have Q8 := Lib.hid (bthen Q6.out q)
          go_wp2_with fail
          refine (HBZ.out _ q).mono ?_
          rintro e w9 ⟨rfl, rfl⟩
          cases Z with
          | true =>
            go_wp2_with fail
            go_ret
            exact ⟨rfl, Q8.out⟩
          | false =>
            go_wp2_with fail
            go_ret
            exact ⟨rfl, Q8.out⟩
        · rw [hr2] at HPB
          obtain ⟨_, hc1⟩ := parseT_err hr2
          have hC : ((C2 : Int) == 0) = false := by simp; omega
          have hC2 : ((C2 : Int) != 0) = true := by simp; omega
          unfold ParsePost erV zeroN at HPB
          simp only at HPB
          refine HPB.out.mono ?_
          rintro e w6 ⟨rfl, q⟩
          have X6 := Lib.hid (((X5.out.below q).alloc (.cells #[.int .i64 0, .int .i64 0, .bool false, .slice none 0 0, .slice none 0 0] 26)).alloc (.cells #[.int .i64 C2, .int .i64 O2] 29))
          have A6 := Lib.hid (((A5.out.below q).alloc (.cells #[.int .i64 0, .int .i64 0, .bool false, .slice none 0 0, .slice none 0 0] 26)).alloc (.cells #[.int .i64 C2, .int .i64 O2] 29))
          have HBY := Lib.hid (bytes_any A6.out X6.out)
          rw [eqB_self] at HBY
          have Q6 := Lib.hid (bal (bal (bthen Q5.out q) (.cells #[.int .i64 0, .int .i64 0, .bool false, .slice none 0 0, .slice none 0 0] 26)) (.cells #[.int .i64 C2, .int .i64 O2] 29))
          clear q X5 A5 ND5 N5 Q5 OB5 HPB
          go_wp2_with fail
          refine HBY.out.mono ?_
          rintro e w7 ⟨rfl, rfl⟩
          go_wp2_with fail
          go_ret
          exact ⟨rfl, Q6.out⟩
      · rw [hr] at HP1
        obtain ⟨ho, hc1⟩ := parseT_err hr
        unfold ParsePost erV zeroN at HP1
        simp only at HP1
        have hC : ((C : Int) == 0) = false := by simp; omega
        have hC2 : ((C : Int) != 0) = true := by simp; omega
        have HN := Lib.hid (fun (w : World) => node_any 1 (.node 0 0 false [] []) (.node 0 0 false [] []) w (fun _ => True) (fun _ => True) [.int .i64 0, .int .i64 0, .bool false, .slice none 0 0, .slice none 0 0] [.int .i64 0, .int .i64 0, .bool false, .slice none 0 0, .slice none 0 0] (by unfold sizT sizTs; simp) (nd_zero w) (nd_zero w))
        rw [eqT_self] at HN
        clear b0 hr hlen hx1
        go_enter Try.func5, Try.ntmps5
        go_wp2_with fail
        refine (HA.out _).mono ?_
        rintro e w1 ⟨rfl, q1⟩
        have Q1 := Lib.hid q1
        have X1' := Lib.hid (HB0.out.below q1)
        clear q1 HB0 HA
        go_wp2_with fail
        refine (HP1.out _ X1'.out).mono ?_
        rintro e w2 ⟨rfl, q⟩
        have Q2 := Lib.hid (bal (bal (bthen Q1.out q) (.cells #[.int .i64 0, .int .i64 0, .bool false, .slice none 0 0, .slice none 0 0] 26)) (.cells #[.int .i64 C, .int .i64 O] 29))
        clear q X1' Q1 HP1
        go_wp2_with fail
        refine (HN.out _).mono ?_
        rintro e w3 ⟨rfl, q⟩
        have Q3 := Lib.hid (bthen Q2.out q)
        go_wp2_with fail
        go_ret
        exact ⟨rfl, Q3.out⟩
    · have h0i : (1500 : Int) < n0 := by omega
      clear b0 HB0 hlen
      go_enter Try.func5, Try.ntmps5
      go_wp2_with fail
      refine (HA.out _).mono ?_
      rintro e w1 ⟨rfl, q1⟩
      have Q1 := Lib.hid q1
      clear q1
      go_wp2_with fail
      refine (HA.out _).mono ?_
      rintro e w2 ⟨rfl, q2⟩
      go_wp2_with fail
      go_ret
      exact ⟨rfl, bthen Q1.out q2⟩
end Go.Proofs.Ytgccjdhkpgmnoaa.treeOnce
