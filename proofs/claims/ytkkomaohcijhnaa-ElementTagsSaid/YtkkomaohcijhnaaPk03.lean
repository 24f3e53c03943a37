/-
  Lemmas and contracts of functions, for the proofs of this seat's laws; nothing of a law.
-/
import Derived.Deep.AppendLies
import Derived.LoopTactic
import Derived.OwnWalk
import Derived.Test.YtkkomaohcijhnaaChecked
import Derived.WalkKit
import Derived.ProofKit
import Derived.Below
import Derived.Outline
import Derived.Deep.QuietTactic
import Derived.Lib.Hide
import Derived.BigQuiet
import Derived.Deep.DeepMust
import Derived.WalkLawsBesides
import Derived.Deep.Cut
import Derived.Lib.AppendZeros
import Derived.Laws.BytesArg
import Derived.Test.YtkkomaohcijhnaaPk01
import Derived.Test.YtkkomaohcijhnaaPk02
namespace Go.Proofs.Ytkkomaohcijhnaa
open Go.RowKit
theorem lst_bad {l : List UInt8} {f t : Int} (h : f < 0 ∨ t < f ∨ (l.length : Int) < t) : lstR l f t = ⟨[], 9, 0⟩ := if_pos h
theorem lst_ok {l : List UInt8} {f t : Nat} (h1 : f ≤ t) (h2 : t ≤ l.length) : lstR l f t = rdEls ((l.take t).drop f) f := by
  unfold lstR
  rw [if_neg (by omega)]
  rfl
theorem ownE_more {w : World} {B B' : Nat} {e : TypeId} {a : Option Addr} {n c : Nat} {es : List El} (h : OwnE w B e a n c es) (hB : B' ≤ B) : OwnE w B' e a n c es := by
  obtain ⟨hl, h1, h2⟩ := h
  refine ⟨hl, h1, ?_⟩
  rcases h2 with h2 | ⟨g, cap, cur, hv, hB2, r⟩
  · exact .inl h2
  · exact .inr ⟨g, cap, cur, hv, Nat.le_trans hB hB2, r⟩
theorem drop_more (l : List UInt8) (t p e : Nat) : (((l.take t).drop p).drop e) = (l.take t).drop (p + e) := by rw [List.drop_drop]
set_option maxRecDepth 100000 in
set_option maxHeartbeats 4000000 in
theorem ref_list_bad {w : World} {a : Option Addr} {n c : Nat} {l : List UInt8} (hx : Bs w a n c l) (f t : Int) (hb : f < 0 ∨ t < f ∨ (n : Int) < t) :
    Calls Try.prog 15 #[.slice a n c, .int .i64 f, .int .i64 t] w fun e w' => e = .returned (.tuple #[.slice none 0 0, .agg #[.int .i64 9, .int .i64 0]]) ∧ Below w.heap.size w w' := by
  have hn : n ≤ 9223372036854775807 := by have := hx.2.1; have := hx.2.2.1; unfold maxLen at this; omega
  obtain ⟨w2, hw2⟩ : ∃ w2, w.alloc (.cells #[.int .i64 0, .int .i64 0] 28) = w2 := ⟨_, rfl⟩
  obtain ⟨H, hH⟩ : ∃ H, w.heap.size = H := ⟨_, rfl⟩
  rw [hH]
  have S2 : Hid (Blk w2 H 28 #[.int .i64 0, .int .i64 0]) := by
    rw [← hw2, ← hH]
    exact Blk.new w 28 #[.int .i64 0, .int .i64 0]
  have Q2 : Hid (Below H w w2) := by
    rw [← hw2, ← hH]
    exact bal (Below.refl _ _) _
  have K := Lib.hid (S2.out.two (.int .i64 9) (.int .i64 0))
  have QF := Lib.hid (belowS (belowS Q2.out (Nat.le_refl H) 0 (.int .i64 9)) (Nat.le_refl H) 1 (.int .i64 0))
  obtain ⟨s0, s1, sl, sf⟩ := S2.out.cells2
  clear hx
  rcases h1 : decide (f < 0) with _ | _
  · have g1 := of_decide_eq_false h1
    rcases h2 : decide (t < f) with _ | _
    · have g2 := of_decide_eq_false h2
      have h3 : decide ((n : Int) < t) = true := decide_eq_true (by omega)
      have g3 := of_decide_eq_true h3
      clear hb
      go_enter Try.func15, Try.ntmps15
      go_wp2_with fail
      obtain ⟨x0, x1, xl, xf⟩ := K.out.cells2
      have q := QF.out
      clear xl xf
      generalize (w2.setCell ⟨H, 0, none⟩ (.int .i64 9)).setCell ⟨H, 1, none⟩ (.int .i64 0) = w9 at *
      exact bodyPost_ret (v := .tuple #[.slice none 0 0, .agg #[.int .i64 9, .int .i64 0]]) (by simp [results, Try.results15, go_sem, x0, x1]) rfl ⟨rfl, q⟩
    · have g2 := of_decide_eq_true h2
      clear hb
      go_enter Try.func15, Try.ntmps15
      go_wp2_with fail
      obtain ⟨x0, x1, xl, xf⟩ := K.out.cells2
      have q := QF.out
      clear xl xf
      generalize (w2.setCell ⟨H, 0, none⟩ (.int .i64 9)).setCell ⟨H, 1, none⟩ (.int .i64 0) = w9 at *
      exact bodyPost_ret (v := .tuple #[.slice none 0 0, .agg #[.int .i64 9, .int .i64 0]]) (by simp [results, Try.results15, go_sem, x0, x1]) rfl ⟨rfl, q⟩
  · have g1 := of_decide_eq_true h1
    clear hb
    go_enter Try.func15, Try.ntmps15
    go_wp2_with fail
    obtain ⟨x0, x1, xl, xf⟩ := K.out.cells2
    have q := QF.out
    clear xl xf
    generalize (w2.setCell ⟨H, 0, none⟩ (.int .i64 9)).setCell ⟨H, 1, none⟩ (.int .i64 0) = w9 at *
    exact bodyPost_ret (v := .tuple #[.slice none 0 0, .agg #[.int .i64 9, .int .i64 0]]) (by simp [results, Try.results15, go_sem, x0, x1]) rfl ⟨rfl, q⟩
set_option maxRecDepth 100000 in
set_option maxHeartbeats 16000000 in
theorem ref_list_ok {w : World} {a : Option Addr} {n c : Nat} {l : List UInt8} (hx : Bs w a n c l) (hz : n ≤ 1000000) (f t : Nat) (hft : f ≤ t) (htn : t ≤ n) :
    Calls Try.prog 15 #[.slice a n c, .int .i64 f, .int .i64 t] w fun e w' => ∃ a' c', e = .returned (.tuple #[.slice a' (rdEls ((l.take t).drop f) f).els.length c', erV (rdEls ((l.take t).drop f) f).code (rdEls ((l.take t).drop f) f).off]) ∧ OwnE w' w.heap.size 25 a' (rdEls ((l.take t).drop f) f).els.length c' (rdEls ((l.take t).drop f) f).els ∧ Below w.heap.size w w' := by
  obtain ⟨i0, hi, hz0, hz1, hz2⟩ := info_partsE info_el
  have HBB : Hid (∀ b off, a = some ⟨b, off, none⟩ → 0 < n → b < w.heap.size + 1) := fun b off e hn => by
    obtain ⟨b', off', e', hb, _⟩ := hx.2.2.2 hn
    rw [e] at e'
    injection e' with e'
    injection e' with e'
    omega
  have HLN := Lib.hid hx.len
  have hcm : c ≤ 9223372036854775807 := by have := hx.2.2.1; unfold maxLen at this; omega
  have hnc := hx.2.1
  obtain ⟨R, hR⟩ : ∃ R, rdEls ((l.take t).drop f) f = R := ⟨_, rfl⟩
  have HR := Lib.hid hR
  have HRR := Lib.hid hR
  clear hR
  obtain ⟨w2, hw2⟩ : ∃ w2, w.alloc (.cells #[.int .i64 0, .int .i64 0] 28) = w2 := ⟨_, rfl⟩
  obtain ⟨H, hH⟩ : ∃ H, w.heap.size = H := ⟨_, rfl⟩
  rw [hH] at HBB
  rw [hH]
  have S2 : Hid (Blk w2 H 28 #[.int .i64 0, .int .i64 0]) := by
    rw [← hw2, ← hH]
    exact Blk.new w 28 #[.int .i64 0, .int .i64 0]
  have Q2 : Hid (Below H w w2) := by
    rw [← hw2, ← hH]
    exact bal (Below.refl _ _) _
  have X2 : Hid (Bs w2 a n c l) := by
    rw [← hw2]
    exact hx.alloc _
  have Z2s : Hid (H + 1 ≤ w2.heap.size) := by
    rw [← hw2, ← hH, Hid]
    simp
  have c1 : ¬ (f : Int) < 0 := by omega
  have c2 : ¬ (t : Int) < f := by omega
  have c3 : ¬ (n : Int) < t := by omega
  clear hx
  go_enter Try.func15, Try.ntmps15
  go_wp2_with fail
  clear hw2 hH
  go_loopw [8, 9] (fun o at_ wr => ∃ ao co, ∃ acc : List El, ∃ p : Nat, f ≤ p ∧ p ≤ t ∧ at_ = .int .i64 p ∧ o = .slice ao acc.length co ∧ OwnE wr (H + 1) 25 ao acc.length co acc ∧ acc.length ≤ p ∧ addE acc (rdEls ((l.take t).drop p) p) = R ∧ Blk wr H 28 #[.int .i64 0, .int .i64 0] ∧ Bs wr a n c l ∧ Below H w wr ∧ H + 1 ≤ wr.heap.size) (fun _ p _ => t - (intOf p).toNat)
  case atStart => exact ⟨none, 0, [], f, Nat.le_refl _, hft, rfl, rfl, OwnE.nil_ _ _ _, Nat.zero_le _, by rw [addE_nil]; exact HR.out, S2.out, X2.out, Q2.out, Z2s.out⟩
  case round =>
    obtain ⟨ao, co, acc, p, p1, p2, rfl, rfl, ho, hacc, hadd, hs, hbs, hq, hsz⟩ := hrel
    have O4 := Lib.hid ho
    have S4 := Lib.hid hs
    have X4 := Lib.hid hbs
    have Q4 := Lib.hid hq
    have AD := Lib.hid hadd
    have SZ := Lib.hid hsz
    clear ho hs hbs hq hadd hsz S2 Q2 X2 Z2s c1 c2 c3 HR
    have hp0 : (0 : Int) ≤ p := by omega
    by_cases hlt : p < t
    · have hlt2 : (p : Int) < t := by omega
      obtain ⟨b, off, _, rfl, hbl, _⟩ := X4.out.at_ (i := p) (by omega)
      obtain ⟨L, hL⟩ : ∃ L, (l.take t).drop p = L := ⟨_, rfl⟩
      have hL2 : (l.drop p).take (t - p) = L := by rw [← hL, List.drop_take]
      have XS := Lib.hid (bs_mid X4.out (i := p) (m := t - p) (by omega) (by omega))
      rw [hL2] at XS
      have hLl : L.length = t - p := XS.out.len
      have HLD := Lib.hid hL
      have ADL := AD.out
      rw [hL] at ADL
      have ADH := Lib.hid ADL
      have HN := Lib.hid (fun v (h : Bs v (some ⟨b, off + p, none⟩) (t - p) (c - p) L) => ref_next_any h (by omega))
      have k1 : (p : Int) ≤ t := by omega
      have k2 : (t : Int) ≤ c := by omega
      have k3 : ¬ c = p := by omega
      have k4 : (t : Int) ≤ n := by omega
      clear hL hL2 ADL AD
      go_wp2_with fail
      with_reducible refine (HN.out _ XS.out).mono ?_
      rintro e w5 ⟨a1, c1, a2, c2, rfl, b1, b2, q⟩
      have O5 := Lib.hid (O4.out.below q)
      have S5 := Lib.hid (S4.out.below q S4.out.lt)
      have X5 := Lib.hid (X4.out.below q)
      have hbB : Hid (b < H + 1) := HBB.out b off rfl (by omega)
      have Q5 : Hid (Below H w w5) := Q4.out.trans (q.mono (by have := SZ.out; omega))
      have SZ5 : Hid (H + 1 ≤ w5.heap.size) := by have := SZ.out; have := q.size; rw [Hid]; omega
      clear q b1 b2 O4 S4 X4 Q4 SZ XS HN hbl k1 k2 k3 k4
      obtain ⟨G, hG⟩ : ∃ G, w5.heap.size = G := ⟨_, rfl⟩
      obtain ⟨D, hD⟩ : ∃ D, G + 1 = D := ⟨_, rfl⟩
      have lH : H < G := by have := SZ5.out; omega
      obtain ⟨w6, hw6⟩ : ∃ w6, (w5.alloc (.cells #[.int .i64 (rdNext L).h.cls, .int .i64 (rdNext L).h.num, .bool (rdNext L).h.con, .int .i64 (rdNext L).h.len, .int .i64 (rdNext L).h.size] 56)).alloc (.cells #[.int .i64 (rdNext L).h.code, .int .i64 (rdNext L).h.off] 28) = w6 := ⟨_, rfl⟩
      have B6 : Hid (Below w5.heap.size w5 w6) := by
        rw [← hw6]
        exact bal (bal (Below.refl _ _) _) _
      have S6 := Lib.hid (S5.out.below B6.out S5.out.lt)
      have O6 := Lib.hid (O5.out.below B6.out)
      have X6 := Lib.hid (X5.out.below B6.out)
      have Q6 : Hid (Below H w w6) := Q5.out.trans (B6.out.mono (by have := SZ5.out; omega))
      have H6 : Hid (Blk w6 G 56 #[.int .i64 (rdNext L).h.cls, .int .i64 (rdNext L).h.num, .bool (rdNext L).h.con, .int .i64 (rdNext L).h.len, .int .i64 (rdNext L).h.size]) := by
        rw [← hw6, ← hG]
        exact (Blk.new w5 56 #[.int .i64 (rdNext L).h.cls, .int .i64 (rdNext L).h.num, .bool (rdNext L).h.con, .int .i64 (rdNext L).h.len, .int .i64 (rdNext L).h.size]).alloc _
      have E6 : Hid (Blk w6 D 28 #[.int .i64 (rdNext L).h.code, .int .i64 (rdNext L).h.off]) := by
        rw [← hw6, ← hD, ← hG]
        have := Blk.new (w5.alloc (.cells #[.int .i64 (rdNext L).h.cls, .int .i64 (rdNext L).h.num, .bool (rdNext L).h.con, .int .i64 (rdNext L).h.len, .int .i64 (rdNext L).h.size] 56)) 28 #[.int .i64 (rdNext L).h.code, .int .i64 (rdNext L).h.off]
        rw [Hid]
        simpa using this
      have SZ6 : Hid (D + 1 = w6.heap.size) := by
        rw [← hw6, ← hD, ← hG, Hid]
        simp
      have HW6 := Lib.hid hw6
      have HDD := Lib.hid hD
      have oB := Lib.hid (fun x hx => (O5.out.base x hx).2)
      rw [hG] at oB
      have nHD : H ≠ D := by omega
      have lHD : H < D := by omega
      have lGD : G < D := by omega
      have nHG : H ≠ G := by omega
      clear hw6 hD O5 S5 X5 Q5 SZ5 B6
      unfold hdV erV
      go_upto_region 7 with fail
      rw [HW6.out, HDD.out]
      clear HW6 HDD hG
      by_cases hc : (rdNext L).h.code = 0
      · have hbd := elN_bd hc
        have hst := addE_step acc p (show L.length ≠ 0 by omega) hc
        have hed : elN L = (rdNext L).h.size + (rdNext L).h.len := rfl
        rw [ADH.out, ← HLD.out, drop_more, HLD.out] at hst
        have HST := Lib.hid hst
        clear hst ADH
        have hLd : (l.take t).drop p = L := HLD.out
        generalize elN L = en at *
        generalize (rdNext L).h = hh at *
        obtain ⟨cl, nu, co', le, si, C, O⟩ := hh
        generalize (rdNext L).cont.length = m1 at *
        generalize (rdNext L).rest.length = m2 at *
        dsimp only at hc HST H6 E6 hbd hed
        subst hc
        dsimp only
        have v1 : IntKind.i64.wrap ((p : Int) + si) = (p : Int) + si := by rw [IntKind.wrap_i64]; omega
        have v2 : IntKind.i64.wrap ((p : Int) + si + le) = (p : Int) + si + le := by rw [IntKind.wrap_i64]; omega
        have hen : (p : Int) + si + le = ((p + en : Nat) : Int) := by omega
        have hpn : p + en ≤ t := by omega
        have hen1 : 1 ≤ en := by omega
        have HX : Hid (elOf ⟨cl, nu, co', le, si, 0, O⟩ p = ⟨cl, nu, co', p, (p : Int) + si, (p : Int) + si + le⟩) := rfl
        rw [HX.out] at HST
        have HEN := Lib.hid hen
        clear hbd hed hLd HX hen
        obtain ⟨e0, e1, dl, df⟩ := E6.out.cells2
        have h0 : w6.cell? ⟨G, 0, none⟩ = some (.int .i64 cl) := by simpa using H6.out.cell 0
        have h1 : w6.cell? ⟨G, 1, none⟩ = some (.int .i64 nu) := by simpa using H6.out.cell 1
        have h2 : w6.cell? ⟨G, 2, none⟩ = some (.bool co') := by simpa using H6.out.cell 2
        have h3 : w6.cell? ⟨G, 3, none⟩ = some (.int .i64 le) := by simpa using H6.out.cell 3
        have h4 : w6.cell? ⟨G, 4, none⟩ = some (.int .i64 si) := by simpa using H6.out.cell 4
        clear df
        obtain ⟨M, hM⟩ : ∃ M, w6.heap.size = M := ⟨_, rfl⟩
        have lM : D < M := by have := SZ6.out; omega
        have X7 := Lib.hid (X6.out.alloc (.cells #[.int .i64 cl, .int .i64 nu, .bool co', .int .i64 p, .int .i64 ((p : Int) + si), .int .i64 ((p : Int) + si + le)] 25))
        have S7 := Lib.hid (S6.out.alloc (.cells #[.int .i64 cl, .int .i64 nu, .bool co', .int .i64 p, .int .i64 ((p : Int) + si), .int .i64 ((p : Int) + si + le)] 25))
        have O7 := Lib.hid (O6.out.below (bal (Below.refl _ w6) (.cells #[.int .i64 cl, .int .i64 nu, .bool co', .int .i64 p, .int .i64 ((p : Int) + si), .int .i64 ((p : Int) + si + le)] 25)))
        have Q7 := Lib.hid (Q6.out.alloc (by omega) (.cells #[.int .i64 cl, .int .i64 nu, .bool co', .int .i64 p, .int .i64 ((p : Int) + si), .int .i64 ((p : Int) + si + le)] 25))
        have T7 : Hid (Blk (w6.alloc (.cells #[.int .i64 cl, .int .i64 nu, .bool co', .int .i64 p, .int .i64 ((p : Int) + si), .int .i64 ((p : Int) + si + le)] 25)) M 25 #[.int .i64 cl, .int .i64 nu, .bool co', .int .i64 p, .int .i64 ((p : Int) + si), .int .i64 ((p : Int) + si + le)]) := by rw [← hM]; exact Blk.new w6 25 #[.int .i64 cl, .int .i64 nu, .bool co', .int .i64 p, .int .i64 ((p : Int) + si), .int .i64 ((p : Int) + si + le)]
        have SZ7 : Hid ((w6.alloc (.cells #[.int .i64 cl, .int .i64 nu, .bool co', .int .i64 p, .int .i64 ((p : Int) + si), .int .i64 ((p : Int) + si + le)] 25)).heap.size = M + 1) := by rw [Hid, ← hM]; simp
        rw [hM] at dl
        go_upto_region 10 with fail
        generalize w6.alloc (.cells #[.int .i64 cl, .int .i64 nu, .bool co', .int .i64 p, .int .i64 ((p : Int) + si), .int .i64 ((p : Int) + si + le)] 25) = w7 at *
        clear h0 h1 h2 h3 h4 e0 e1 hM X6 S6 O6 Q6 H6 E6 SZ6 dl v1 v2
        obtain ⟨q0, q1, q2, q3, q4, q5⟩ := T7.out.cellsE
        have X8 := Lib.hid (X7.out.alloc (.cells #[.int .i64 cl, .int .i64 nu, .bool co', .int .i64 p, .int .i64 ((p : Int) + si), .int .i64 ((p : Int) + si + le)] 25))
        have S8 := Lib.hid (S7.out.alloc (.cells #[.int .i64 cl, .int .i64 nu, .bool co', .int .i64 p, .int .i64 ((p : Int) + si), .int .i64 ((p : Int) + si + le)] 25))
        have O8 := Lib.hid (O7.out.below (bal (Below.refl _ w7) (.cells #[.int .i64 cl, .int .i64 nu, .bool co', .int .i64 p, .int .i64 ((p : Int) + si), .int .i64 ((p : Int) + si + le)] 25)))
        have T8 := Lib.hid (T7.out.alloc (.cells #[.int .i64 cl, .int .i64 nu, .bool co', .int .i64 p, .int .i64 ((p : Int) + si), .int .i64 ((p : Int) + si + le)] 25))
        have Q8 := Lib.hid (Q7.out.alloc (by have := SZ7.out; omega) (.cells #[.int .i64 cl, .int .i64 nu, .bool co', .int .i64 p, .int .i64 ((p : Int) + si), .int .i64 ((p : Int) + si + le)] 25))
        have NB := Lib.hid (Blk.new w7 25 #[.int .i64 cl, .int .i64 nu, .bool co', .int .i64 p, .int .i64 ((p : Int) + si), .int .i64 ((p : Int) + si + le)])
        have SZ8 : H + 1 ≤ (w7.alloc (.cells #[.int .i64 cl, .int .i64 nu, .bool co', .int .i64 p, .int .i64 ((p : Int) + si), .int .i64 ((p : Int) + si + le)] 25)).heap.size := by have := SZ7.out; simp; omega
        have BA := Lib.hid (fun x hx => (O8.out.base x hx).1)
        go_wp2_with (at_builtin; go_must (refine wpList_append_lies _ rfl _ _ 33 rfl (H + 1) 25 i0 zeroE 6 48 Try.underlying33 hi hz0 hz1 hz2 rfl (by decide) (.slice ao acc.length co) acc.length (cellsE acc) rfl O8.out.2 ⟨_, 0, none⟩ 1 1 [.int .i64 cl, .int .i64 nu, .bool co', .int .i64 p, .int .i64 ((p : Int) + si), .int .i64 ((p : Int) + si + le)] rfl rfl (World.news_of_block NB.out) (by simp [Value.oneCell']) (by decide) (by unfold maxLen; omega) (by omega) SZ8 _ rfl ?_))
        intro g cap w9 hown9 hg9 hat hlt9
        have D9 : Hid (Below (H + 1) _ w9) := row_belowE hg9 BA.out SZ8
        have T9 := Lib.hid (blk_other T8.out hg9 (fun y hy => by have := oB.out y hy; omega))
        have S9 := Lib.hid (S8.out.below D9.out (by omega))
        have Q9 : Hid (Below H w w9) := Q8.out.trans (D9.out.mono (by omega))
        have X9 : Hid (Bs w9 (some ⟨b, off, none⟩) n c l) := bs_belowB X8.out D9.out (fun x hx => by injection hx with hx; subst hx; exact hbB.out)
        have O9 : Hid (OwnE w9 (H + 1) 25 (some ⟨g, 0, none⟩) (acc.length + 1) cap (acc ++ [⟨cl, nu, co', p, (p : Int) + si, (p : Int) + si + le⟩])) := by
          refine ⟨by simp, ?_⟩
          rw [cellsE_snoc]
          exact hown9
        have hs9 : H + 1 ≤ w9.heap.size := by have := D9.out.size; omega
        clear hown9 hg9 hat D9 O8 NB Q8 BA X8 S8 T8 q0 q1 q2 q3 q4 q5
        obtain ⟨q0, q1, q2, q3, q4, q5⟩ := T9.out.cellsE
        go_wp2_with fail
        refine ⟨⟨some ⟨g, 0, none⟩, cap, acc ++ [⟨cl, nu, co', p, (p : Int) + si, (p : Int) + si + le⟩], p + en, by omega, hpn, by rw [HEN.out], by simp, ?_, by simp; omega, HST.out.symm, S9.out, X9.out, Q9.out, hs9⟩, by have := HEN.out; simp [intOf]; omega⟩
        rw [List.length_append]
        exact O9.out
      · have her := addE_err acc p (show L.length ≠ 0 by omega) hc
        rw [ADH.out] at her
        have HER := Lib.hid her
        have hw := within_next hc
        clear her ADH
        generalize (rdNext L).h = hh at *
        obtain ⟨cl, nu, co', le, si, C, O⟩ := hh
        generalize (rdNext L).cont.length = m1 at *
        generalize (rdNext L).rest.length = m2 at *
        dsimp only at hc HER H6 E6 hw
        dsimp only
        have hcb : ((C : Int) != 0) = true := by rw [bne_iff_ne]; omega
        have hwr : IntKind.i64.wrap ((O : Int) + p) = (O : Int) + p := by have := hw.1; rw [IntKind.wrap_i64]; omega
        obtain ⟨e0, e1, dl, df⟩ := E6.out.cells2
        obtain ⟨s0, s1, sl, sf⟩ := S6.out.cells2
        have K := Lib.hid (S6.out.two (.int .i64 C) (.int .i64 ((O : Int) + p)))
        have QF := Lib.hid (belowS (belowS Q6.out (Nat.le_refl H) 0 (.int .i64 C)) (Nat.le_refl H) 1 (.int .i64 ((O : Int) + p)))
        clear hw dl df
        go_wp2_with fail
        go_region
        all_goals
          try go_wp2_with fail
          obtain ⟨x0, x1, xl, xf⟩ := K.out.cells2
          have q := QF.out
          clear xl xf
          generalize (w6.setCell ⟨H, 0, none⟩ (.int .i64 C)).setCell ⟨H, 1, none⟩ (.int .i64 ((O : Int) + p)) = w9 at *
          exact bodyPost_ret (v := .tuple #[.slice none 0 0, .agg #[.int .i64 C, .int .i64 ((O : Int) + p)]]) (by simp [results, Try.results15, go_sem, x0, x1]) rfl ⟨none, 0, by rw [HRR.out, HER.out]; simp [erV], by rw [HRR.out, HER.out]; exact OwnE.nil_ _ _ _, by first | exact q | exact below_drewN q 1⟩
    · obtain rfl : p = t := by omega
      have hlt2 : ¬ (p : Int) < p := by omega
      have hnil : (l.take p).drop p = [] := List.drop_of_length_le (by rw [List.length_take]; omega)
      have AE := AD.out
      rw [hnil, addE_end] at AE
      have AE2 := Lib.hid AE
      clear AE hnil AD
      obtain ⟨s0, s1, sl, sf⟩ := S4.out.cells2
      have K := Lib.hid (S4.out.two (.int .i64 0) (.int .i64 0))
      have QF := Lib.hid (belowS (belowS Q4.out (Nat.le_refl H) 0 (.int .i64 0)) (Nat.le_refl H) 1 (.int .i64 0))
      have OF := Lib.hid ((O4.out.keep (w' := (wr.setCell ⟨H, 0, none⟩ (.int .i64 0)).setCell ⟨H, 1, none⟩ (.int .i64 0)) fun x hx => by
        have hb := (O4.out.base x hx).1
        rw [Below.heap_setCell _ ⟨H, 1, none⟩ _ _ (show x.block ≠ H by omega), Below.heap_setCell _ ⟨H, 0, none⟩ _ _ (show x.block ≠ H by omega)]))
      go_wp2_with fail
      obtain ⟨x0, x1, xl, xf⟩ := K.out.cells2
      have q := QF.out
      have o9 := OF.out
      clear xl xf
      generalize (wr.setCell ⟨H, 0, none⟩ (.int .i64 0)).setCell ⟨H, 1, none⟩ (.int .i64 0) = w9 at *
      exact bodyPost_ret (v := .tuple #[.slice ao acc.length co, .agg #[.int .i64 0, .int .i64 0]]) (by simp [results, Try.results15, go_sem, x0, x1]) rfl ⟨ao, co, by rw [HRR.out, ← AE2.out]; rfl, by rw [HRR.out, ← AE2.out]; exact ownE_more o9 (by omega), q⟩
end Go.Proofs.Ytkkomaohcijhnaa
namespace Go.Proofs.Ytkkomaohcijhnaa
open Go.RowKit
def ElsPost (w : World) (R : RE) (e : Ending) (w' : World) : Prop :=
  ∃ a' c', e = .returned (.tuple #[.slice a' R.els.length c', erV R.code R.off]) ∧ OwnE w' w.heap.size 25 a' R.els.length c' R.els ∧ Below w.heap.size w w'
theorem ref_list_any {w : World} {a : Option Addr} {n c : Nat} {l : List UInt8} (hx : Bs w a n c l) (hz : n ≤ 1000000) (f t : Int) :
    Calls Try.prog 15 #[.slice a n c, .int .i64 f, .int .i64 t] w (ElsPost w (lstR l f t)) := by
  by_cases hb : f < 0 ∨ t < f ∨ (n : Int) < t
  · rw [lst_bad (by rw [hx.len]; exact hb)]
    refine (ref_list_bad hx f t hb).mono ?_
    rintro e w' ⟨he, q⟩
    exact ⟨none, 0, he, OwnE.nil_ _ _ _, q⟩
  · obtain ⟨x, rfl⟩ : ∃ x : Nat, f = x := ⟨f.toNat, by omega⟩
    obtain ⟨y, rfl⟩ : ∃ y : Nat, t = y := ⟨t.toNat, by omega⟩
    rw [lst_ok (by omega) (by rw [hx.len]; omega)]
    exact ref_list_ok hx hz x y (by omega) (by omega)
theorem prt_err {l : List UInt8} {c n : Int} (h : (oneR l).code ≠ 0) : prtR l c n = ⟨[], (oneR l).code, (oneR l).off⟩ := if_neg h
theorem prt_tag {l : List UInt8} {c n : Int} (h : (oneR l).code = 0) (h2 : ¬ ((oneR l).el.cls = c ∧ (oneR l).el.num = n ∧ (oneR l).el.con = true)) : prtR l c n = ⟨[], 3, 0⟩ := by unfold prtR; rw [if_pos h, if_neg h2]
theorem prt_ok {l : List UInt8} {c n : Int} (h : (oneR l).code = 0) (h2 : (oneR l).el.cls = c ∧ (oneR l).el.num = n ∧ (oneR l).el.con = true) : prtR l c n = lstR l (oneR l).el.bo (oneR l).el.en := by unfold prtR; rw [if_pos h, if_pos h2]
set_option maxRecDepth 100000 in
set_option maxHeartbeats 8000000 in
theorem ref_parts_any {w : World} {a : Option Addr} {n c : Nat} {l : List UInt8} (hx : Bs w a n c l) (hz : n ≤ 1000000) (cl nu : Int) :
    Calls Try.prog 21 #[.slice a n c, .int .i64 cl, .int .i64 nu] w (ElsPost w (prtR l cl nu)) := by
  have H1 := Lib.hid (fun v (h : Bs v a n c l) => ref_one_any h hz)
  have H2 := Lib.hid (fun f t v (h : Bs v a n c l) => ref_list_any h hz f t)
  unfold ElsPost at *
  obtain ⟨w2, hw2⟩ : ∃ w2, w.alloc (.cells #[.int .i64 0, .int .i64 0] 28) = w2 := ⟨_, rfl⟩
  obtain ⟨H, hH⟩ : ∃ H, w.heap.size = H := ⟨_, rfl⟩
  rw [hH]
  have S2 : Hid (Blk w2 H 28 #[.int .i64 0, .int .i64 0]) := by
    rw [← hw2, ← hH]
    exact Blk.new w 28 #[.int .i64 0, .int .i64 0]
  have Q2 : Hid (Below H w w2) := by
    rw [← hw2, ← hH]
    exact bal (Below.refl _ _) _
  have X2 : Hid (Bs w2 a n c l) := by
    rw [← hw2]
    exact hx.alloc _
  have L2 := Lib.hid S2.out.lt
  clear hx
  go_enter Try.func21, Try.ntmps21
  go_wp2_with fail
  clear hw2 hH
  with_reducible refine (H1.out _ X2.out).mono ?_
  rintro e w3 ⟨rfl, q⟩
  have S3 := Lib.hid (S2.out.below q L2.out)
  have X3 := Lib.hid (X2.out.below q)
  have Q3 : Hid (Below H w w3) := Q2.out.trans (q.mono (by have := L2.out; omega))
  clear q S2 X2 Q2 L2
  have P1 := Lib.hid (fun h => prt_err (l := l) (c := cl) (n := nu) h)
  have P2 := Lib.hid (fun h h2 => prt_tag (l := l) (c := cl) (n := nu) h h2)
  have P3 := Lib.hid (fun h h2 => prt_ok (l := l) (c := cl) (n := nu) h h2)
  obtain ⟨R, hR0⟩ : ∃ R, prtR l cl nu = R := ⟨_, rfl⟩
  rw [hR0] at P1 P2 P3
  have HRR := Lib.hid hR0
  clear hR0
  generalize oneR l = O1 at *
  obtain ⟨⟨xc, xn, xk, xs, xb, xe⟩, C, O⟩ := O1
  unfold elV erV
  dsimp only at P1 P2 P3 ⊢
  obtain ⟨G, hG⟩ : ∃ G, w3.heap.size = G := ⟨_, rfl⟩
  obtain ⟨D, hD⟩ : ∃ D, G + 1 = D := ⟨_, rfl⟩
  have lH : H < G := by rw [← hG]; exact S3.out.lt
  obtain ⟨w4, hw4⟩ : ∃ w4, (w3.alloc (.cells #[.int .i64 xc, .int .i64 xn, .bool xk, .int .i64 xs, .int .i64 xb, .int .i64 xe] 25)).alloc (.cells #[.int .i64 C, .int .i64 O] 28) = w4 := ⟨_, rfl⟩
  have B4 : Hid (Below w3.heap.size w3 w4) := by
    rw [← hw4]
    exact bal (bal (Below.refl _ _) _) _
  have S4 := Lib.hid (S3.out.below B4.out S3.out.lt)
  have X4 := Lib.hid (X3.out.below B4.out)
  have Q4 : Hid (Below H w w4) := Q3.out.trans (B4.out.mono (by omega))
  have T4 : Hid (Blk w4 G 25 #[.int .i64 xc, .int .i64 xn, .bool xk, .int .i64 xs, .int .i64 xb, .int .i64 xe]) := by
    rw [← hw4, ← hG]
    exact (Blk.new w3 25 #[.int .i64 xc, .int .i64 xn, .bool xk, .int .i64 xs, .int .i64 xb, .int .i64 xe]).alloc _
  have E4 : Hid (Blk w4 D 28 #[.int .i64 C, .int .i64 O]) := by
    rw [← hw4, ← hD, ← hG]
    have := Blk.new (w3.alloc (.cells #[.int .i64 xc, .int .i64 xn, .bool xk, .int .i64 xs, .int .i64 xb, .int .i64 xe] 25)) 28 #[.int .i64 C, .int .i64 O]
    rw [Hid]
    simpa using this
  have HW4 := Lib.hid hw4
  have HDD := Lib.hid hD
  have nHD : H ≠ D := by omega
  have nHG : H ≠ G := by omega
  clear hw4 hD S3 X3 Q3 B4
  go_upto_region 2 with fail
  rw [HW4.out, HDD.out]
  clear HW4 HDD hG
  obtain ⟨t0, t1, t2, t3, t4, t5⟩ := T4.out.cellsE
  obtain ⟨e0, e1, dl, df⟩ := E4.out.cells2
  obtain ⟨s0, s1, sl, sf⟩ := S4.out.cells2
  clear df
  by_cases hc : C = 0
  · subst hc
    by_cases ht : xc = cl ∧ xn = nu ∧ xk = true
    · obtain ⟨rfl, rfl, rfl⟩ := ht
      have hR := P3.out rfl ⟨rfl, rfl, rfl⟩
      have HR := Lib.hid hR
      clear hR P1 P2 P3
      go_wp2_with fail
      with_reducible refine (H2.out _ _ _ X4.out).mono ?_
      rintro e w5 ⟨a5, c5, rfl, ho, q⟩
      have S5 := Lib.hid (S4.out.below q S4.out.lt)
      have Q5 : Hid (Below H w w5) := Q4.out.trans (q.mono (by have := S4.out.lt; omega))
      have O5 := Lib.hid (ownE_more ho (show H + 1 ≤ w4.heap.size from S4.out.lt))
      clear q ho s0 s1 sl sf S4 Q4
      unfold erV
      generalize lstR l xb xe = R2 at *
      obtain ⟨es, C2, OO⟩ := R2
      dsimp only at O5 ⊢
      obtain ⟨s0, s1, sl, sf⟩ := S5.out.cells2
      have K := Lib.hid (S5.out.two (.int .i64 C2) (.int .i64 OO))
      have QF := Lib.hid (belowS (belowS Q5.out (Nat.le_refl H) 0 (.int .i64 C2)) (Nat.le_refl H) 1 (.int .i64 OO))
      have OF := Lib.hid ((O5.out.keep (w' := (w5.setCell ⟨H, 0, none⟩ (.int .i64 C2)).setCell ⟨H, 1, none⟩ (.int .i64 OO)) fun x hx => by
        have hb := (O5.out.base x hx).1
        rw [Below.heap_setCell _ ⟨H, 1, none⟩ _ _ (show x.block ≠ H by omega), Below.heap_setCell _ ⟨H, 0, none⟩ _ _ (show x.block ≠ H by omega)]))
      go_wp2_with fail
      obtain ⟨x0, x1, xl, xf⟩ := K.out.cells2
      have q := QF.out
      have OF9 := OF.out
      clear xl xf
      generalize (w5.setCell ⟨H, 0, none⟩ (.int .i64 C2)).setCell ⟨H, 1, none⟩ (.int .i64 OO) = w9 at *
      exact bodyPost_ret (v := .tuple #[.slice a5 es.length c5, .agg #[.int .i64 C2, .int .i64 OO]]) (by simp [results, Try.results21, go_sem, x0, x1]) rfl ⟨a5, c5, by rw [HRR.out, HR.out]; rfl, by rw [HRR.out, HR.out]; exact ownE_more OF9 (Nat.le_succ H), q⟩
    · have HR := Lib.hid (P2.out rfl ht)
      have K := Lib.hid (S4.out.two (.int .i64 3) (.int .i64 0))
      have QF := Lib.hid (belowS (belowS Q4.out (Nat.le_refl H) 0 (.int .i64 3)) (Nat.le_refl H) 1 (.int .i64 0))
      clear P1 P2 P3
      by_cases u1 : xc = cl
      · by_cases u2 : xn = nu
        · have u3 : xk = false := by
            rcases xk with _ | _
            · rfl
            · exact absurd ⟨u1, u2, rfl⟩ ht
          subst u1; subst u2; subst u3
          clear ht
          go_wp2_with fail
          obtain ⟨x0, x1, xl, xf⟩ := K.out.cells2
          have q := QF.out
          clear xl xf
          generalize (w4.setCell ⟨H, 0, none⟩ (.int .i64 3)).setCell ⟨H, 1, none⟩ (.int .i64 0) = w9 at *
          exact bodyPost_ret (v := .tuple #[.slice none 0 0, .agg #[.int .i64 3, .int .i64 0]]) (by simp [results, Try.results21, go_sem, x0, x1]) rfl ⟨none, 0, by rw [HRR.out, HR.out]; rfl, by rw [HRR.out, HR.out]; exact OwnE.nil_ _ _ _, q⟩
        · have u3 : (xn != nu) = true := by rw [bne_iff_ne]; exact u2
          subst u1
          clear ht
          go_wp2_with fail
          obtain ⟨x0, x1, xl, xf⟩ := K.out.cells2
          have q := QF.out
          clear xl xf
          generalize (w4.setCell ⟨H, 0, none⟩ (.int .i64 3)).setCell ⟨H, 1, none⟩ (.int .i64 0) = w9 at *
          exact bodyPost_ret (v := .tuple #[.slice none 0 0, .agg #[.int .i64 3, .int .i64 0]]) (by simp [results, Try.results21, go_sem, x0, x1]) rfl ⟨none, 0, by rw [HRR.out, HR.out]; rfl, by rw [HRR.out, HR.out]; exact OwnE.nil_ _ _ _, q⟩
      · have u3 : (xc != cl) = true := by rw [bne_iff_ne]; exact u1
        clear ht
        go_wp2_with fail
        obtain ⟨x0, x1, xl, xf⟩ := K.out.cells2
        have q := QF.out
        clear xl xf
        generalize (w4.setCell ⟨H, 0, none⟩ (.int .i64 3)).setCell ⟨H, 1, none⟩ (.int .i64 0) = w9 at *
        exact bodyPost_ret (v := .tuple #[.slice none 0 0, .agg #[.int .i64 3, .int .i64 0]]) (by simp [results, Try.results21, go_sem, x0, x1]) rfl ⟨none, 0, by rw [HRR.out, HR.out]; rfl, by rw [HRR.out, HR.out]; exact OwnE.nil_ _ _ _, q⟩
  · have HR := Lib.hid (P1.out hc)
    have hcb : ((C : Int) != 0) = true := by rw [bne_iff_ne]; omega
    have K := Lib.hid (S4.out.two (.int .i64 C) (.int .i64 O))
    have QF := Lib.hid (belowS (belowS Q4.out (Nat.le_refl H) 0 (.int .i64 C)) (Nat.le_refl H) 1 (.int .i64 O))
    clear P1 P2 P3
    go_wp2_with fail
    go_region
    all_goals
      try go_wp2_with fail
      obtain ⟨x0, x1, xl, xf⟩ := K.out.cells2
      have q := QF.out
      clear xl xf
      generalize (w4.setCell ⟨H, 0, none⟩ (.int .i64 C)).setCell ⟨H, 1, none⟩ (.int .i64 O) = w9 at *
      exact bodyPost_ret (v := .tuple #[.slice none 0 0, .agg #[.int .i64 C, .int .i64 O]]) (by simp [results, Try.results21, go_sem, x0, x1]) rfl ⟨none, 0, by rw [HRR.out, HR.out]; rfl, by rw [HRR.out, HR.out]; exact OwnE.nil_ _ _ _, by first | exact q | exact below_drewN q 1⟩
end Go.Proofs.Ytkkomaohcijhnaa
namespace Go.Proofs.Ytkkomaohcijhnaa
open Go.RowKit
theorem bytes_any {w : World} {a b : Option Addr} {n c m d : Nat} {xs ys : List UInt8} (hx : Bs w a n c xs) (hy : Bs w b m d ys) :
    Calls Try.prog 25 #[.slice a n c, .slice b m d] w fun e w' => e = .returned (.bool (eqB xs ys)) ∧ w = w' := by
  have c1 := fun dst hd => hx.conv (P := Try.prog) (dst := dst) Try.underlying22 Try.underlying5 hd
  have c2 := fun dst hd => hy.conv (P := Try.prog) (dst := dst) Try.underlying22 Try.underlying5 hd
  have k1 := c1 9 Try.underlying9
  have k2 := c2 9 Try.underlying9
  clear c1 c2 hx hy
  go_enter Try.func25, Try.ntmps25
  go_wp2
  go_ret
  exact ⟨by rw [eqB_beq]; rfl, rfl⟩
end Go.Proofs.Ytkkomaohcijhnaa
namespace Go.Proofs.Ytkkomaohcijhnaa
open Go.RowKit
def lsOf (ss : List Sl) : List (List UInt8) := ss.map (·.l)
theorem lsOf_len (ss : List Sl) : (lsOf ss).length = ss.length := List.length_map _
theorem lsOf_at {ss : List Sl} {i : Nat} (h : i < ss.length) : (lsOf ss)[i]'(by rw [lsOf_len]; exact h) = ss[i].l := by simp [lsOf]
set_option maxRecDepth 100000 in
set_option maxHeartbeats 4000000 in
theorem slices_self {w : World} {a b : Option Addr} {n c d : Nat} {xs ys : List Sl} (hx : Rw w a n c xs) (hy : Rw w b n d ys) (he : lsOf xs = lsOf ys) :
    Calls Try.prog 27 #[.slice a n c, .slice b n d] w fun e w' => e = .returned (.bool true) ∧ ∃ k, w' = w.drewN k := by
  have HX := Lib.hid hx
  have HY := Lib.hid hy
  have HE := Lib.hid he
  have hn : n ≤ 9223372036854775807 := by have := hx.1.2.1; have := hx.1.2.2.1; unfold maxLen at this; omega
  clear hx hy he
  go_enter Try.func27, Try.ntmps27
  go_wp2_with fail
  go_loopw [5] (fun i wr => ∃ j k : Nat, j ≤ n ∧ i = .int .i64 j ∧ wr = w.drewN k) (fun i _ => n - (intOf i).toNat)
  case atStart => exact ⟨0, 0, Nat.zero_le _, rfl, rfl⟩
  case round =>
    obtain ⟨j, k, hj, rfl, rfl⟩ := hrel
    have hj0 : (0 : Int) ≤ j := by omega
    by_cases hlt : j < n
    · have hlt2 : (j : Int) < n := by omega
      obtain ⟨b1, o1, l1, rfl, h1, c1, s1⟩ := HX.out.at_ hlt
      obtain ⟨b2, o2, l2, rfl, h2, c2, s2⟩ := HY.out.at_ hlt
      have e1 : xs[j].l = ys[j].l := by
        rw [← lsOf_at l1, ← lsOf_at l2]
        simp only [HE.out]
      have HB := Lib.hid (fun q => bytes_any (s1.drewN (k + q)) (s2.drewN (k + q)))
      rw [e1, eqB_self] at HB
      clear e1 s1 s2
      generalize xs[j] = x at *
      generalize ys[j] = y at *
      obtain ⟨xa, xn, xc, xl⟩ := x
      obtain ⟨ya, yn, yc, yl⟩ := y
      dsimp only at HB c1 c2
      go_wp2_with fail
      go_quiet ((go_at_call 25; first | with_reducible exact quiet_left (HB.out _) | with_reducible exact quiet_add_left (HB.out _)))
      go_wp2_with fail
      exact ⟨⟨j + 1, k + nq, by omega, by go_num, by first | rfl | rw [World.drewN_drewN]⟩, by simp [intOf]; omega⟩
    · obtain rfl : j = n := by omega
      have hlt2 : ¬ (j : Int) < j := by omega
      go_wp2_with fail
      go_ret
      exact ⟨by simp, k, rfl⟩
set_option maxRecDepth 100000 in
set_option maxHeartbeats 4000000 in
theorem els_self {w : World} {a b : Option Addr} {n c d : Nat} {es : List El} (hx : Ew w a n c es) (hy : Ew w b n d es) :
    Calls Try.prog 16 #[.slice a n c, .slice b n d] w fun e w' => e = .returned (.bool true) ∧ ∃ k, w' = w.drewN k := by
  have HX := Lib.hid hx
  have HY := Lib.hid hy
  have hn : n ≤ 9223372036854775807 := by have := hx.2.1; have := hx.2.2.1; unfold maxLen at this; omega
  clear hx hy
  go_enter Try.func16, Try.ntmps16
  go_wp2_with fail
  go_loopw [5] (fun i wr => ∃ j k : Nat, j ≤ n ∧ i = .int .i64 j ∧ wr = w.drewN k) (fun i _ => n - (intOf i).toNat)
  case atStart => exact ⟨0, 0, Nat.zero_le _, rfl, rfl⟩
  case round =>
    obtain ⟨j, k, hj, rfl, rfl⟩ := hrel
    have hj0 : (0 : Int) ≤ j := by omega
    by_cases hlt : j < n
    · have hlt2 : (j : Int) < n := by omega
      obtain ⟨b1, o1, l1, rfl, h1, p0, p1, p2, p3, p4, p5⟩ := HX.out.at_ hlt
      obtain ⟨b2, o2, l2, rfl, h2, q0, q1, q2, q3, q4, q5⟩ := HY.out.at_ hlt
      generalize es[j] = x at *
      obtain ⟨x0, x1, x2, x3, x4, x5⟩ := x
      dsimp only at p0 p1 p2 p3 p4 p5 q0 q1 q2 q3 q4 q5
      go_wp2_with fail
      go_quiet (fail)
      go_wp2_with fail
      exact ⟨⟨j + 1, k + nq, by omega, by go_num, by first | rfl | rw [World.drewN_drewN]⟩, by simp [intOf]; omega⟩
    · obtain rfl : j = n := by omega
      have hlt2 : ¬ (j : Int) < j := by omega
      go_wp2_with fail
      go_ret
      exact ⟨by simp, k, rfl⟩
end Go.Proofs.Ytkkomaohcijhnaa
namespace Go.Proofs.Ytkkomaohcijhnaa
theorem str_join (A B : List UInt8) : (⟨A.toArray⟩ : ByteArray) ++ (⟨B.toArray⟩ : ByteArray) = ⟨(A ++ B).toArray⟩ := by
  apply ByteArray.ext
  simp
end Go.Proofs.Ytkkomaohcijhnaa
namespace Go.Proofs.Ytkkomaohcijhnaa
open Go.RowKit
def hexB (k : Nat) : UInt8 := [48, 49, 50, 51, 52, 53, 54, 55, 56, 57, 97, 98, 99, 100, 101, 102].getD k 0
def hexS : ByteArray := ⟨#[48, 49, 50, 51, 52, 53, 54, 55, 56, 57, 97, 98, 99, 100, 101, 102]⟩
theorem hex_cut {k : Nat} (h : k < 16) : hexS.extract k (k + 1) = ⟨#[hexB k]⟩ := by
  rcases (by omega : k = 0 ∨ k = 1 ∨ k = 2 ∨ k = 3 ∨ k = 4 ∨ k = 5 ∨ k = 6 ∨ k = 7 ∨ k = 8 ∨ k = 9 ∨ k = 10 ∨ k = 11 ∨ k = 12 ∨ k = 13 ∨ k = 14 ∨ k = 15) with rfl | rfl | rfl | rfl | rfl | rfl | rfl | rfl | rfl | rfl | rfl | rfl | rfl | rfl | rfl | rfl <;> rfl
def tagOk (x : El) : Prop := 0 ≤ x.cls ∧ x.cls ≤ 3 ∧ 0 ≤ x.num ∧ x.num ≤ 30
instance (x : El) : Decidable (tagOk x) := by unfold tagOk; infer_instance
def tagS (x : El) : List UInt8 := if tagOk x then [hexB ((idByte x.cls.toNat x.num.toNat x.con).toNat / 16), hexB ((idByte x.cls.toNat x.num.toNat x.con).toNat % 16)] else [63, 63]
theorem tagS_len (x : El) : (tagS x).length = 2 := by unfold tagS; split <;> rfl
def tagsR : List El → List UInt8
  | [] => []
  | x :: r => tagS x ++ r.flatMap fun y => 32 :: tagS y
theorem tagsR_one (x : El) : tagsR [x] = tagS x := by simp [tagsR]
theorem tagsR_snoc {es : List El} (x : El) (h : es ≠ []) : tagsR (es ++ [x]) = tagsR es ++ [32] ++ tagS x := by
  cases es with
  | nil => exact absurd rfl h
  | cons y r => simp [tagsR, List.flatMap_append]
theorem tagsR_len : ∀ es : List El, (tagsR es).length ≤ 3 * es.length
  | [] => Nat.le_refl _
  | x :: r => by
    have h : ∀ r : List El, (r.flatMap fun y => 32 :: tagS y).length = 3 * r.length := by
      intro r
      induction r with
      | nil => rfl
      | cons y r ih => rw [List.flatMap_cons, List.length_append, ih, List.length_cons, List.length_cons, tagS_len]; omega
    show (tagS x ++ _).length ≤ _
    rw [List.length_append, tagS_len, h, List.length_cons]
    omega
set_option maxRecDepth 100000 in
set_option maxHeartbeats 8000000 in
theorem ref_tags_any {w : World} {a : Option Addr} {n c : Nat} {es : List El} (hx : Ew w a n c es) (hz : n ≤ 1000000) :
    Calls Try.prog 18 #[.slice a n c] w fun e w' => e = .returned (.string ⟨(tagsR es).toArray⟩) ∧ ∃ k, w' = w.drewN k := by
  have HX := Lib.hid hx
  have HL := Lib.hid hx.len
  have hn : (n : Int) ≤ 1000000 := by omega
  clear hx
  go_enter Try.func18, Try.ntmps18
  go_wp2_with fail
  go_loopw [3, 4] (fun s i wr => ∃ j k : Nat, j ≤ n ∧ i = .int .i64 j ∧ s = .string ⟨(tagsR (es.take j)).toArray⟩ ∧ wr = w.drewN k) (fun _ i _ => n - (intOf i).toNat)
  case atStart => exact ⟨0, 0, Nat.zero_le _, rfl, rfl, rfl⟩
  case round =>
    obtain ⟨j, k, hj, rfl, rfl, rfl⟩ := hrel
    have hj0 : (0 : Int) ≤ j := by omega
    by_cases hlt : j < n
    · have hlt2 : (j : Int) < n := by omega
      obtain ⟨b, off, hl, rfl, hb, p0, p1, p2, p3, p4, p5⟩ := HX.out.at_ hlt
      have hlen := tagsR_len (es.take j)
      rw [List.length_take] at hlen
      have HTK := Lib.hid (List.take_succ_eq_append_getElem hl)
      obtain ⟨x, hxx⟩ : ∃ x, es[j] = x := ⟨_, rfl⟩
      rw [hxx] at HTK p0 p1 p2 p3 p4 p5
      obtain ⟨N, hNl⟩ : ∃ N, (tagsR (es.take j)).length = N := ⟨_, rfl⟩
      obtain ⟨A, hA⟩ : ∃ A : ByteArray, ⟨(tagsR (es.take j)).toArray⟩ = A := ⟨_, rfl⟩
      have hN : A.size = N := by rw [← hA]; exact hNl
      have hN2 : N ≤ 3000000 := by omega
      have HA := Lib.hid hA
      rw [hA]
      clear hxx hlen hNl hA
      by_cases hz0 : j = 0
      · subst hz0
        simp only [Nat.zero_mul, Nat.add_zero] at p0 p1 p2 p3 p4 p5
        have hB : A.size = N := hN
        by_cases hok : tagOk x
        · obtain ⟨h1, h2, h3, h4⟩ := hok
          obtain ⟨cl, hcl⟩ : ∃ cl : Nat, x.cls = cl := ⟨x.cls.toNat, by omega⟩
          obtain ⟨nu, hnu⟩ : ∃ nu : Nat, x.num = nu := ⟨x.num.toNat, by omega⟩
          have HI := Lib.hid (fun v => ref_identifier_ok (c := cl) (n := nu) (by omega) (by omega) x.con v)
          have HT : Hid (tagS x = [hexB ((idByte cl nu x.con).toNat / 16), hexB ((idByte cl nu x.con).toNat % 16)]) := by
            rw [Hid, tagS, if_pos ⟨h1, h2, h3, h4⟩, hcl, hnu]
            rfl
          rw [hcl] at p0
          rw [hnu] at p1
          clear h1 h2 h3 h4 hcl hnu
          generalize idByte cl nu x.con = y at *
          have hy := byte_bd y
          obtain ⟨k1, hk1⟩ : ∃ k1, y.toNat / 16 = k1 := ⟨_, rfl⟩
          obtain ⟨k2, hk2⟩ : ∃ k2, y.toNat % 16 = k2 := ⟨_, rfl⟩
          rw [hk1, hk2] at HT
          have g1 : (y.toNat : Int).tdiv 16 = k1 := by rw [Int.tdiv_eq_ediv_of_nonneg (by omega)]; omega
          have g2 : (y.toNat : Int).tmod 16 = k2 := by rw [Int.tmod_eq_emod_of_nonneg (by omega)]; omega
          have g1' : (y.toNat : Int) / 16 = k1 := by omega
          have g2' : (y.toNat : Int) % 16 = k2 := by omega
          have wk1 : IntKind.u8.wrap (k1 : Int) = k1 := by rw [IntKind.wrap_u8']; omega
          have uk1 : IntKind.u8.wrap ((k1 : Int) + 1) = (k1 : Int) + 1 := by rw [IntKind.wrap_u8']; omega
          have zk1 : (0 : Int) ≤ k1 := by omega
          have yk1 : (k1 : Int) + 1 ≤ 16 := by omega
          have xk1 : (k1 : Int) ≤ (k1 : Int) + 1 := by omega
          have ek1 := hex_cut (k := k1) (by omega)
          have sk1 : (hexS.extract k1 (k1 + 1)).size = 1 := by rw [ek1]; rfl
          have wk2 : IntKind.u8.wrap (k2 : Int) = k2 := by rw [IntKind.wrap_u8']; omega
          have uk2 : IntKind.u8.wrap ((k2 : Int) + 1) = (k2 : Int) + 1 := by rw [IntKind.wrap_u8']; omega
          have zk2 : (0 : Int) ≤ k2 := by omega
          have yk2 : (k2 : Int) + 1 ≤ 16 := by omega
          have xk2 : (k2 : Int) ≤ (k2 : Int) + 1 := by omega
          have ek2 := hex_cut (k := k2) (by omega)
          have sk2 : (hexS.extract k2 (k2 + 1)).size = 1 := by rw [ek2]; rfl
          have s3 : (A ++ hexS.extract k1 (k1 + 1)).size = N + 1 := by rw [ByteArray.size_append, hB, sk1]
          have HK := Lib.hid (And.intro ek1 ek2)
          unfold hexS at sk1 sk2 s3 HK
          clear hk1 hk2 hy ek1 ek2
          go_wp2_with fail
          go_quiet ((go_at_call 36; first | with_reducible exact quiet_left (HI.out _) | with_reducible exact quiet_add_left (HI.out _)))
          go_wp2_with fail
          go_quiet (fail)
          go_wp2_with fail
          refine ⟨⟨1, _, by omega, by go_num, congrArg Value.string ?_, rfl⟩, by simp [intOf]; omega⟩
          rw [HK.out.1, HK.out.2, ← HA.out]
          have e : tagsR (es.take 1) = [hexB k1, hexB k2] := by rw [HTK.out, List.take_zero, List.nil_append, tagsR_one, HT.out]
          rw [e]
          show ((⟨([] : List UInt8).toArray⟩ : ByteArray) ++ ⟨[hexB k1].toArray⟩) ++ ⟨[hexB k2].toArray⟩ = _
          rw [str_join, str_join]
          rfl
        · have HI := Lib.hid (fun v => ref_identifier_bad (c := x.cls) (n := x.num) (by unfold tagOk at hok; omega) x.con v)
          have HT : Hid (tagS x = [63, 63]) := by rw [Hid, tagS, if_neg hok]
          clear hok
          go_wp2_with fail
          go_quiet ((go_at_call 36; first | with_reducible exact quiet_left (HI.out _) | with_reducible exact quiet_add_left (HI.out _)))
          go_wp2_with fail
          refine ⟨⟨1, _, by omega, by go_num, congrArg Value.string ?_, rfl⟩, by simp [intOf]; omega⟩
          rw [← HA.out]
          have e : tagsR (es.take 1) = [63, 63] := by rw [HTK.out, List.take_zero, List.nil_append, tagsR_one, HT.out]
          rw [e]
          show (⟨([] : List UInt8).toArray⟩ : ByteArray) ++ ⟨[63, 63].toArray⟩ = _
          rw [str_join]
          rfl
      · have hjp : (0 : Int) < j := by omega
        have HNE : Hid (es.take j ≠ []) := fun h => by
          have := congrArg List.length h
          rw [List.length_take, List.length_nil] at this
          omega
        have hB : (A ++ ⟨#[32]⟩).size = (N + 1) := by rw [ByteArray.size_append, hN]; rfl
        by_cases hok : tagOk x
        · obtain ⟨h1, h2, h3, h4⟩ := hok
          obtain ⟨cl, hcl⟩ : ∃ cl : Nat, x.cls = cl := ⟨x.cls.toNat, by omega⟩
          obtain ⟨nu, hnu⟩ : ∃ nu : Nat, x.num = nu := ⟨x.num.toNat, by omega⟩
          have HI := Lib.hid (fun v => ref_identifier_ok (c := cl) (n := nu) (by omega) (by omega) x.con v)
          have HT : Hid (tagS x = [hexB ((idByte cl nu x.con).toNat / 16), hexB ((idByte cl nu x.con).toNat % 16)]) := by
            rw [Hid, tagS, if_pos ⟨h1, h2, h3, h4⟩, hcl, hnu]
            rfl
          rw [hcl] at p0
          rw [hnu] at p1
          clear h1 h2 h3 h4 hcl hnu
          generalize idByte cl nu x.con = y at *
          have hy := byte_bd y
          obtain ⟨k1, hk1⟩ : ∃ k1, y.toNat / 16 = k1 := ⟨_, rfl⟩
          obtain ⟨k2, hk2⟩ : ∃ k2, y.toNat % 16 = k2 := ⟨_, rfl⟩
          rw [hk1, hk2] at HT
          have g1 : (y.toNat : Int).tdiv 16 = k1 := by rw [Int.tdiv_eq_ediv_of_nonneg (by omega)]; omega
          have g2 : (y.toNat : Int).tmod 16 = k2 := by rw [Int.tmod_eq_emod_of_nonneg (by omega)]; omega
          have g1' : (y.toNat : Int) / 16 = k1 := by omega
          have g2' : (y.toNat : Int) % 16 = k2 := by omega
          have wk1 : IntKind.u8.wrap (k1 : Int) = k1 := by rw [IntKind.wrap_u8']; omega
          have uk1 : IntKind.u8.wrap ((k1 : Int) + 1) = (k1 : Int) + 1 := by rw [IntKind.wrap_u8']; omega
          have zk1 : (0 : Int) ≤ k1 := by omega
          have yk1 : (k1 : Int) + 1 ≤ 16 := by omega
          have xk1 : (k1 : Int) ≤ (k1 : Int) + 1 := by omega
          have ek1 := hex_cut (k := k1) (by omega)
          have sk1 : (hexS.extract k1 (k1 + 1)).size = 1 := by rw [ek1]; rfl
          have wk2 : IntKind.u8.wrap (k2 : Int) = k2 := by rw [IntKind.wrap_u8']; omega
          have uk2 : IntKind.u8.wrap ((k2 : Int) + 1) = (k2 : Int) + 1 := by rw [IntKind.wrap_u8']; omega
          have zk2 : (0 : Int) ≤ k2 := by omega
          have yk2 : (k2 : Int) + 1 ≤ 16 := by omega
          have xk2 : (k2 : Int) ≤ (k2 : Int) + 1 := by omega
          have ek2 := hex_cut (k := k2) (by omega)
          have sk2 : (hexS.extract k2 (k2 + 1)).size = 1 := by rw [ek2]; rfl
          have s3 : ((A ++ ⟨#[32]⟩) ++ hexS.extract k1 (k1 + 1)).size = (N + 1) + 1 := by rw [ByteArray.size_append, hB, sk1]
          have HK := Lib.hid (And.intro ek1 ek2)
          unfold hexS at sk1 sk2 s3 HK
          clear hk1 hk2 hy ek1 ek2
          go_wp2_with fail
          go_quiet ((go_at_call 36; first | with_reducible exact quiet_left (HI.out _) | with_reducible exact quiet_add_left (HI.out _)))
          go_wp2_with fail
          go_quiet (fail)
          go_wp2_with fail
          refine ⟨⟨j + 1, _, by omega, by go_num, congrArg Value.string ?_, rfl⟩, by simp [intOf]; omega⟩
          rw [HK.out.1, HK.out.2, ← HA.out]
          rw [HTK.out, tagsR_snoc x HNE.out, HT.out]
          show (((⟨(tagsR (es.take j)).toArray⟩ : ByteArray) ++ ⟨[32].toArray⟩) ++ ⟨[hexB k1].toArray⟩) ++ ⟨[hexB k2].toArray⟩ = _
          rw [str_join, str_join, str_join]
          simp
        · have HI := Lib.hid (fun v => ref_identifier_bad (c := x.cls) (n := x.num) (by unfold tagOk at hok; omega) x.con v)
          have HT : Hid (tagS x = [63, 63]) := by rw [Hid, tagS, if_neg hok]
          clear hok
          go_wp2_with fail
          go_quiet ((go_at_call 36; first | with_reducible exact quiet_left (HI.out _) | with_reducible exact quiet_add_left (HI.out _)))
          go_wp2_with fail
          refine ⟨⟨j + 1, _, by omega, by go_num, congrArg Value.string ?_, rfl⟩, by simp [intOf]; omega⟩
          rw [← HA.out]
          rw [HTK.out, tagsR_snoc x HNE.out, HT.out]
          show ((⟨(tagsR (es.take j)).toArray⟩ : ByteArray) ++ ⟨[32].toArray⟩) ++ ⟨[63, 63].toArray⟩ = _
          rw [str_join, str_join]
    · obtain rfl : j = n := by omega
      have hlt2 : ¬ (j : Int) < j := by omega
      have e : es.take j = es := List.take_of_length_le (by have := HL.out; omega)
      rw [e]
      go_wp2_with fail
      go_ret
      exact ⟨rfl, k, rfl⟩
end Go.Proofs.Ytkkomaohcijhnaa
namespace Go.Proofs.Ytkkomaohcijhnaa
theorem elN_enc {l : List UInt8} (h : (rdNext l).h.code = 0) : l.take (elN l) = encB (rdNext l).h.cls (rdNext l).h.num (rdNext l).h.con (rdNext l).cont ∧ (rdNext l).cont.length ≤ 2147483647 := by
  obtain ⟨h1, h2, h3, h4⟩ := enc_of_next h
  obtain ⟨g1, g2, g3, g4, g5⟩ := rdNext_h h
  have hs := rdHead_size g2
  have hc : (rdNext l).cont.length = (rdHead l).len := by rw [g4, List.length_take, List.length_drop]; omega
  have hm : (rdNext l).cont.length ≤ 2147483647 := by omega
  refine ⟨?_, hm⟩
  have hn := congrArg (fun r => r.h) (rdNext_enc (k := (rdNext l).h.con) h1 h2 hm (rdNext l).rest)
  rw [h4] at hn
  have hlen : (encB (rdNext l).h.cls (rdNext l).h.num (rdNext l).h.con (rdNext l).cont).length = elN l := by
    have e1 : (rdNext l).h.size = (lenOct (rdNext l).cont.length).length + 1 := congrArg RH.size hn
    have e2 : (rdNext l).h.len = (rdNext l).cont.length := congrArg RH.len hn
    rw [encB_len]
    unfold elN
    omega
  conv => lhs; rw [← h4]
  rw [List.take_append_of_le_length (by rw [h4, hlen]; exact Nat.le_refl _), List.take_of_length_le (by rw [h4, hlen]; exact Nat.le_refl _)]
theorem next_alone {l : List UInt8} (h : (rdNext l).h.code = 0) : (rdNext (l.take (elN l))).h = (rdNext l).h ∧ (rdNext (l.take (elN l))).rest = [] := by
  obtain ⟨h1, h2, h3, h4⟩ := enc_of_next h
  obtain ⟨e, hm⟩ := elN_enc h
  have hn := rdNext_enc (k := (rdNext l).h.con) h1 h2 hm (rdNext l).rest
  have hm2 := rdNext_enc (k := (rdNext l).h.con) h1 h2 hm []
  rw [List.append_nil] at hm2
  rw [h4] at hn
  rw [e, hm2]
  exact ⟨(congrArg (fun r => r.h) hn).symm, rfl⟩
theorem one_alone {l : List UInt8} (h : (rdNext l).h.code = 0) : oneR (l.take (elN l)) = ⟨elOf (rdNext l).h 0, 0, 0⟩ := by
  obtain ⟨h1, h2⟩ := next_alone h
  unfold oneR
  rw [h1, h2, if_pos h]
  rfl
def cov (l : List UInt8) (t : Nat) : Nat → List El → Prop
  | p, [] => p = t
  | p, x :: r => p < t ∧ (rdNext ((l.take t).drop p)).h.code = 0 ∧ x = elOf (rdNext ((l.take t).drop p)).h p ∧ cov l t (p + elN ((l.take t).drop p)) r
theorem cov_of (l : List UInt8) (t : Nat) (ht : t ≤ l.length) : ∀ (k p : Nat), t - p ≤ k → p ≤ t → (rdEls ((l.take t).drop p) p).code = 0 → cov l t p (rdEls ((l.take t).drop p) p).els
  | 0, p, hk, hp, h => by
    have e : (l.take t).drop p = [] := List.drop_of_length_le (by rw [List.length_take]; omega)
    rw [e, rdEls_nil]
    show p = t
    omega
  | k + 1, p, hk, hp, h => by
    by_cases hlt : p < t
    · have hl : ((l.take t).drop p).length ≠ 0 := by rw [List.length_drop, List.length_take]; omega
      by_cases hc : (rdNext ((l.take t).drop p)).h.code = 0
      · have hb := elN_bd hc
        rw [List.length_drop, List.length_take] at hb
        have hdd : ((l.take t).drop p).drop (elN ((l.take t).drop p)) = (l.take t).drop (p + elN ((l.take t).drop p)) := List.drop_drop
        by_cases h2 : (rdEls (((l.take t).drop p).drop (elN ((l.take t).drop p))) (p + elN ((l.take t).drop p))).code = 0
        · rw [rdEls_ok p hl hc h2]
          refine ⟨hlt, hc, rfl, ?_⟩
          have ih := cov_of l t ht k (p + elN ((l.take t).drop p)) (by omega) (by omega)
          rw [hdd] at h2 ⊢
          exact ih h2
        · rw [rdEls_more p hl hc h2] at h
          exact absurd h h2
      · rw [rdEls_err p hl hc] at h
        exact absurd h hc
    · have e : (l.take t).drop p = [] := List.drop_of_length_le (by rw [List.length_take]; omega)
      rw [e, rdEls_nil]
      show p = t
      omega
theorem cov_head {l : List UInt8} {t p : Nat} {x : El} {r : List El} (ht : t ≤ l.length) (h : cov l t p (x :: r)) :
    ∃ e : Nat, 2 ≤ e ∧ p + e ≤ t ∧ x.st = p ∧ x.en = p + e ∧ cov l t (p + e) r ∧ oneR ((l.drop p).take e) = ⟨⟨x.cls, x.num, x.con, 0, x.bo - p, e⟩, 0, 0⟩ ∧ (p : Int) ≤ x.bo ∧ x.bo ≤ p + e := by
  obtain ⟨hlt, hc, hx, hr⟩ := h
  have hb := elN_bd hc
  have hone := one_alone hc
  have hlen : ((l.take t).drop p).length = t - p := by rw [List.length_drop, List.length_take]; omega
  have e0 : ∀ N, N ≤ t - p → ((l.take t).drop p).take N = (l.drop p).take N := fun N hN => by
    rw [List.drop_take, List.take_take, Nat.min_eq_left hN]
  have e1 := e0 (elN ((l.take t).drop p)) (by omega)
  have hel : elN ((l.take t).drop p) = (rdNext ((l.take t).drop p)).h.size + (rdNext ((l.take t).drop p)).h.len := rfl
  rw [e1] at hone
  refine ⟨elN ((l.take t).drop p), hb.1, by omega, ?_, ?_, hr, ?_, ?_⟩
  · rw [hx]; rfl
  · rw [hx, hel]
    show (p : Int) + _ + _ = _
    omega
  · rw [hone, hx, hel]
    unfold elOf
    simp only [RO.mk.injEq, El.mk.injEq, true_and, and_true]
    omega
  · rw [hx]
    show (p : Int) ≤ p + _ ∧ (p : Int) + _ ≤ _
    omega
end Go.Proofs.Ytkkomaohcijhnaa
namespace Go.Proofs.Ytkkomaohcijhnaa
open Go.RowKit
def isE (x : El) (c : Int) (k : Bool) (n : Int) : Bool := decide (x.cls = c ∧ x.con = k ∧ x.num = n)
theorem isE_self (x : El) : isE x x.cls x.con x.num = true := decide_eq_true ⟨rfl, rfl, rfl⟩
set_option maxRecDepth 100000 in
set_option maxHeartbeats 4000000 in
theorem is_any (x : El) (c : Int) (k : Bool) (n : Int) (w : World) :
    Calls Try.prog 19 #[elV x, .int .i64 c, .bool k, .int .i64 n] w fun e w' => e = .returned (.bool (isE x c k n)) ∧ Below w.heap.size w w' := by
  obtain ⟨xc, xn, xk, xs, xb, xe⟩ := x
  unfold isE elV
  dsimp only
  obtain ⟨H, hH⟩ : ∃ H, w.heap.size = H := ⟨_, rfl⟩
  have T2 : Hid (Blk (w.alloc (.cells #[.int .i64 xc, .int .i64 xn, .bool xk, .int .i64 xs, .int .i64 xb, .int .i64 xe] 25)) H 25 #[.int .i64 xc, .int .i64 xn, .bool xk, .int .i64 xs, .int .i64 xb, .int .i64 xe]) := by
    rw [← hH]
    exact Blk.new w 25 #[.int .i64 xc, .int .i64 xn, .bool xk, .int .i64 xs, .int .i64 xb, .int .i64 xe]
  have Q2 := Lib.hid (bal (Below.refl w.heap.size w) (.cells #[.int .i64 xc, .int .i64 xn, .bool xk, .int .i64 xs, .int .i64 xb, .int .i64 xe] 25))
  rw [hH] at Q2 ⊢
  obtain ⟨t0, t1, t2, t3, t4, t5⟩ := T2.out.cellsE
  by_cases u1 : xc = c
  · subst u1
    by_cases u2 : xk = k
    · subst u2
      by_cases u3 : xn = n
      · subst u3
        rw [decide_eq_true (⟨rfl, rfl, rfl⟩ : xc = xc ∧ xk = xk ∧ xn = xn)]
        go_enter Try.func19, Try.ntmps19
        go_wp2_with fail
        go_ret
        exact ⟨by simp, Q2.out⟩
      · rw [decide_eq_false (fun h : xc = xc ∧ xk = xk ∧ xn = n => u3 h.2.2)]
        have g : (xn == n) = false := by rw [beq_eq_false_iff_ne]; exact u3
        go_enter Try.func19, Try.ntmps19
        go_wp2_with fail
        go_ret
        exact ⟨by simp, Q2.out⟩
    · rw [decide_eq_false (fun h : xc = xc ∧ xk = k ∧ xn = n => u2 h.2.1)]
      have g : (xk == k) = false := by rw [beq_eq_false_iff_ne]; exact u2
      go_enter Try.func19, Try.ntmps19
      go_wp2_with fail
      go_ret
      exact ⟨by simp, Q2.out⟩
  · rw [decide_eq_false (fun h : xc = c ∧ xk = k ∧ xn = n => u1 h.1)]
    have g : (xc == c) = false := by rw [beq_eq_false_iff_ne]; exact u1
    go_enter Try.func19, Try.ntmps19
    go_wp2_with fail
    go_ret
    exact ⟨by simp, Q2.out⟩
end Go.Proofs.Ytkkomaohcijhnaa
namespace Go.Proofs.Ytkkomaohcijhnaa
open Go.RowKit
theorem cov_len {l : List UInt8} {t : Nat} (ht : t ≤ l.length) : ∀ (es : List El) (p : Nat), cov l t p es → es.length + p ≤ t
  | [], p, h => by have : p = t := h; simp; omega
  | x :: r, p, h => by
    obtain ⟨e, h1, h2, _, _, h5, _⟩ := cov_head ht h
    have := cov_len ht r (p + e) h5
    rw [List.length_cons]
    omega
theorem lst_len (l : List UInt8) (f t : Int) : (lstR l f t).els.length ≤ l.length := by
  unfold lstR
  split
  · exact Nat.zero_le _
  · rename_i h
    by_cases hc : (rdEls ((l.take t.toNat).drop f.toNat) f.toNat).code = 0
    · have := cov_len (by omega) _ _ (cov_of l t.toNat (by omega) _ f.toNat (Nat.le_refl _) (by omega) hc)
      omega
    · rw [rdEls_code _ _ hc]
      exact Nat.zero_le _
theorem lst_cov {l : List UInt8} {f t : Int} (h : (lstR l f t).code = 0) : ∃ F T : Nat, f = F ∧ t = T ∧ F ≤ T ∧ T ≤ l.length ∧ cov l T F (lstR l f t).els := by
  unfold lstR at h ⊢
  split at h
  · cases h
  · rename_i hb
    rw [if_neg hb]
    exact ⟨f.toNat, t.toNat, by omega, by omega, by omega, by omega, cov_of l t.toNat (by omega) _ f.toNat (Nat.le_refl _) (by omega) h⟩
theorem lst_nil {l : List UInt8} {f t : Int} (h : (lstR l f t).code ≠ 0) : (lstR l f t).els = [] := by
  unfold lstR at h ⊢
  split
  · rfl
  · rename_i hb
    rw [if_neg hb] at h
    exact rdEls_code _ _ h
set_option maxRecDepth 100000 in
set_option maxHeartbeats 16000000 in
theorem lists_walk {w : World} {a : Option Addr} {n c : Nat} {l : List UInt8} {f t : Int} (hx : Bs w a n c l)
    (HA : ∀ v : World, Below w.heap.size w v → Calls Try.prog 10 #[] v fun e w' => e = .returned (.bool true) ∧ Below v.heap.size v w')
    (HL : ∀ v : World, n ≤ 1000000 → Bs v a n c l → Below w.heap.size w v → Calls Try.prog 14 #[.slice a n c, .int .i64 f, .int .i64 t] v fun e w' => ∃ a' c', e = .returned (.tuple #[.slice a' (lstR l f t).els.length c', erV (lstR l f t).code (lstR l f t).off]) ∧ Ew w' a' (lstR l f t).els.length c' (lstR l f t).els ∧ Below v.heap.size v w')
    (HO : ∀ (v : World) (a : Option Addr) (n c : Nat) (l : List UInt8), n ≤ 1000000 → Bs v a n c l → Below w.heap.size w v → Calls Try.prog 11 #[.slice a n c] v fun e w' => e = .returned (.tuple #[elV (oneR l).el, erV (oneR l).code (oneR l).off]) ∧ Below v.heap.size v w')
    (HI : ∀ (x : El) (cl : Int) (k : Bool) (nu : Int) (v : World), Below w.heap.size w v → Calls Try.prog 19 #[elV x, .int .i64 cl, .bool k, .int .i64 nu] v fun e w' => e = .returned (.bool (isE x cl k nu)) ∧ Below v.heap.size v w')
    (HT : ∀ (v : World) (a : Option Addr) (n c : Nat) (es : List El), n ≤ 1000000 → Ew v a n c es → Below w.heap.size w v → Calls Try.prog 17 #[.slice a n c] v fun e w' => e = .returned (.string ⟨(tagsR es).toArray⟩) ∧ Below v.heap.size v w') :
    Calls Try.prog 4 #[.slice a n c, .int .i64 f, .int .i64 t] w fun e w' => e = .returned (.bool true) ∧ Below w.heap.size w w' := by
  have H0 := Lib.hid HA
  have Q0 := Lib.hid (Below.refl w.heap.size w)
  have X0 := Lib.hid hx
  have hcm : n ≤ 9223372036854775807 := by have := hx.2.1; have := hx.2.2.1; unfold maxLen at this; omega
  by_cases hn : n ≤ 2000
  · have hn2 : ¬ (2000 : Int) < n := by omega
    have hlen := hx.len
    have hll := lst_len l f t
    have hcov := fun h => lst_cov (l := l) (f := f) (t := t) h
    have hnil := fun h => lst_nil (l := l) (f := f) (t := t) h
    have H1 := Lib.hid (fun v h q => HL v (by omega) h q)
    have H2 := Lib.hid (fun v (h : Bs v a n c l) => ref_list_any h (by omega) f t)
    have H3 := Lib.hid (fun v a m c es hm h q => HT v a m c es hm h q)
    have H5 := Lib.hid (fun v a n c l h1 h2 q => HO v a n c l h1 h2 q)
    have H6 := Lib.hid HI
    unfold ElsPost at H2
    clear HA HL HT HO HI hx
    generalize lstR l f t = R at *
    obtain ⟨es, C, O⟩ := R
    unfold erV at H1 H2
    dsimp only at H1 H2 hcov hll hnil
    obtain ⟨m, hm⟩ : ∃ m, es.length = m := ⟨_, rfl⟩
    rw [hm] at H1 H2 hll
    have HCOV := Lib.hid hcov
    have HNIL := Lib.hid hnil
    have HLEN := Lib.hid hlen
    have HM := Lib.hid hm
    have hm1 : m ≤ 2000 := by omega
    clear hm hcov hnil hlen hll
    go_enter Try.func4, Try.ntmps4
    go_wp2_with fail
    with_reducible refine (H0.out _ Q0.out).mono ?_
    rintro e w1 ⟨rfl, q⟩
    have Q1 := Lib.hid (bthen Q0.out q)
    have X1 := Lib.hid (X0.out.below q)
    clear q
    go_wp2_with fail
    with_reducible refine (H1.out _ X1.out Q1.out).mono ?_
    rintro e w2 ⟨a2, c2, rfl, h2, q⟩
    have Q2 := Lib.hid (bthen Q1.out q)
    have X2 := Lib.hid (X1.out.below q)
    have E2 := Lib.hid h2
    clear q X1 Q1 h2
    obtain ⟨G, hG⟩ : ∃ G, w2.heap.size = G := ⟨_, rfl⟩
    have X3 := Lib.hid (X2.out.alloc (.cells #[.int .i64 C, .int .i64 O] 28))
    have E3 := Lib.hid (E2.out.alloc (.cells #[.int .i64 C, .int .i64 O] 28))
    have Q3 := Lib.hid (bal Q2.out (.cells #[.int .i64 C, .int .i64 O] 28))
    have K3 : Hid (Blk (w2.alloc (.cells #[.int .i64 C, .int .i64 O] 28)) G 28 #[.int .i64 C, .int .i64 O]) := by rw [← hG]; exact Blk.new _ _ _
    go_wp2_with fail
    generalize w2.alloc (.cells #[.int .i64 C, .int .i64 O] 28) = w3 at *
    clear hG X2 Q2 E2
    with_reducible refine (H2.out _ X3.out).mono ?_
    rintro e w4 ⟨a4, c4, rfl, h4, q⟩
    have Q4 := Lib.hid (bthen Q3.out q)
    have X4 := Lib.hid (X3.out.below q)
    have E4 := Lib.hid (E3.out.below q)
    have F4 := Lib.hid h4.ew
    have K4 := Lib.hid (K3.out.below q K3.out.lt)
    clear q X3 Q3 E3 K3 h4
    obtain ⟨M, hM⟩ : ∃ M, w4.heap.size = M := ⟨_, rfl⟩
    have lG : G < M := by rw [← hM]; exact K4.out.lt
    have X5 := Lib.hid (X4.out.alloc (.cells #[.int .i64 C, .int .i64 O] 28))
    have E5 := Lib.hid (E4.out.alloc (.cells #[.int .i64 C, .int .i64 O] 28))
    have F5 := Lib.hid (F4.out.alloc (.cells #[.int .i64 C, .int .i64 O] 28))
    have Q5 := Lib.hid (bal Q4.out (.cells #[.int .i64 C, .int .i64 O] 28))
    have K5 := Lib.hid (K4.out.alloc (.cells #[.int .i64 C, .int .i64 O] 28))
    have L5 : Hid (Blk (w4.alloc (.cells #[.int .i64 C, .int .i64 O] 28)) M 28 #[.int .i64 C, .int .i64 O]) := by rw [← hM]; exact Blk.new _ _ _
    have HB := Lib.hid (els_self E5.out F5.out)
    go_wp2_with fail
    generalize w4.alloc (.cells #[.int .i64 C, .int .i64 O] 28) = w5 at *
    clear hM Q4 E4 F4 K4 X4
    with_reducible refine (HB.out).mono ?_
    rintro e w6 ⟨rfl, k, rfl⟩
    have K6 := Lib.hid (K5.out.drewN k)
    have L6 := Lib.hid (L5.out.drewN k)
    have X6 := Lib.hid (X5.out.drewN k)
    have E6 := Lib.hid (E5.out.drewN k)
    have F6 := Lib.hid (F5.out.drewN k)
    have Q6 := Lib.hid (below_drewN Q5.out k)
    generalize w5.drewN k = w6 at *
    clear HB K5 L5 X5 E5 F5 Q5
    obtain ⟨k0, k1, kl, kf⟩ := K6.out.cells2
    obtain ⟨l0, l1, ll, lf⟩ := L6.out.cells2
    clear kf lf
    go_wp2_with fail
    with_reducible refine (H3.out _ _ _ _ _ (by omega) E6.out Q6.out).mono ?_
    rintro e w7 ⟨rfl, q⟩
    have K7 := Lib.hid (K6.out.below q K6.out.lt)
    have X7 := Lib.hid (X6.out.below q)
    have F7 := Lib.hid (F6.out.below q)
    have Q7 := Lib.hid (bthen Q6.out q)
    clear q k0 k1 kl l0 l1 ll K6 L6 X6 E6 F6 Q6
    have HT2 := Lib.hid (ref_tags_any F7.out (by omega))
    go_wp2_with fail
    with_reducible refine (HT2.out).mono ?_
    rintro e w8 ⟨rfl, k, rfl⟩
    have K8 := Lib.hid (K7.out.drewN k)
    have X8 := Lib.hid (X7.out.drewN k)
    have F8 := Lib.hid (F7.out.drewN k)
    have Q8 := Lib.hid (below_drewN Q7.out k)
    generalize w7.drewN k = w8 at *
    clear HT2 K7 X7 F7 Q7
    obtain ⟨k0, k1, kl, kf⟩ := K8.out.cells2
    clear kf
    by_cases hC : C = 0
    · subst hC
      obtain ⟨P, T, rfl, rfl, hPT, hTl, hcv⟩ := HCOV.out rfl
      have CV := Lib.hid hcv
      have hTn : T ≤ n := by have := HLEN.out; omega
      clear hcv hTl
      go_wp2_with fail
      clear k0 k1 kl K8
      go_loopw [11, 12] (fun at_ i wr => ∃ j p : Nat, j ≤ m ∧ p ≤ T ∧ i = .int .i64 j ∧ at_ = .int .i64 p ∧ cov l T p (es.drop j) ∧ Ew wr a4 m c4 es ∧ Bs wr a n c l ∧ Below w.heap.size w wr) (fun _ i _ => m - (intOf i).toNat)
      case atStart => exact ⟨0, P, Nat.zero_le _, hPT, rfl, rfl, CV.out, F8.out, X8.out, Q8.out⟩
      case round =>
        obtain ⟨j, p, hj, hpT, rfl, rfl, hcv, hf, hb, hq⟩ := hrel
        have F9 := Lib.hid hf
        have X9 := Lib.hid hb
        have Q9 := Lib.hid hq
        have CV9 := Lib.hid hcv
        clear hf hb hq hcv CV F8 X8 Q8
        have hj0 : (0 : Int) ≤ j := by omega
        by_cases hlt : j < m
        · have hlt2 : (j : Int) < m := by omega
          obtain ⟨b4, o4, hl4, rfl, hb4, p0, p1, p2, p3, p4, p5⟩ := F9.out.at_ hlt
          have hcv := CV9.out
          rw [List.drop_eq_getElem_cons hl4] at hcv
          obtain ⟨e, he2, hpe, hst, hen, hrest, hone, hbo1, hbo2⟩ := cov_head (by have := HLEN.out; omega) hcv
          clear hcv CV9
          generalize es[j] = x at *
          obtain ⟨xc, xn, xk, xs, xb, xe⟩ := x
          dsimp only at p0 p1 p2 p3 p4 p5 hst hen hone hbo1 hbo2
          subst hst
          obtain ⟨E, hE⟩ : ∃ E, p + e = E := ⟨_, rfl⟩
          obtain rfl : e = E - p := by omega
          have hxe : xe = (E : Int) := by omega
          subst hxe
          clear hen
          rw [hE] at hrest
          have HR := Lib.hid hrest
          have hpE : p + 2 ≤ E := by omega
          have hET : E ≤ T := by omega
          obtain ⟨b, off, _, rfl, hbb, _⟩ := X9.out.at_ (i := p) (by omega)
          have hnc := X9.out.2.1
          have hcx := X9.out.2.2.1
          unfold maxLen at hcx
          have t1 : ¬ (E : Int) ≤ p := by omega
          have t2 : ¬ (T : Int) < E := by omega
          have t3 : (p : Int) ≤ E := by omega
          have t4 : (E : Int) ≤ c := by omega
          have t5 : ¬ c = p := by omega
          have t6 : (0 : Int) ≤ p := by omega
          have t7 : IntKind.i64.wrap (xb - p) = xb - p := by rw [IntKind.wrap_i64]; omega
          have t8 : IntKind.i64.wrap ((E : Int) - p) = ((E - p : Nat) : Int) := by rw [IntKind.wrap_i64]; omega
          have t9 : (E : Int) ≤ n := by omega
          obtain ⟨M2, hM2⟩ : ∃ M, wr.heap.size = M := ⟨_, rfl⟩
          have X10 := Lib.hid (X9.out.alloc (.cells #[.int .i64 xc, .int .i64 xn, .bool xk, .int .i64 (p : Int), .int .i64 xb, .int .i64 (E : Int)] 25))
          have F10 := Lib.hid (F9.out.alloc (.cells #[.int .i64 xc, .int .i64 xn, .bool xk, .int .i64 (p : Int), .int .i64 xb, .int .i64 (E : Int)] 25))
          have Q10 := Lib.hid (bal Q9.out (.cells #[.int .i64 xc, .int .i64 xn, .bool xk, .int .i64 (p : Int), .int .i64 xb, .int .i64 (E : Int)] 25))
          have T10 : Hid (Blk (wr.alloc (.cells #[.int .i64 xc, .int .i64 xn, .bool xk, .int .i64 (p : Int), .int .i64 xb, .int .i64 (E : Int)] 25)) M2 25 #[.int .i64 xc, .int .i64 xn, .bool xk, .int .i64 (p : Int), .int .i64 xb, .int .i64 (E : Int)]) := by rw [← hM2]; exact Blk.new _ _ _
          have XS := Lib.hid (bs_mid X10.out (i := p) (m := E - p) (by omega) (by omega))
          have HO2 := Lib.hid (H5.out _ _ _ _ _ (by omega) XS.out Q10.out)
          rw [hone] at HO2
          unfold elV erV at HO2
          dsimp only at HO2
          clear hone hrest hE hpe he2 hbb hnc hcx hbo1 hbo2
          go_wp2_with fail
          generalize wr.alloc (.cells #[.int .i64 xc, .int .i64 xn, .bool xk, .int .i64 (p : Int), .int .i64 xb, .int .i64 (E : Int)] 25) = w10 at *
          clear hM2 F9 X9 Q9 XS p0 p1 p2 p3 p4 p5
          with_reducible refine (HO2.out).mono ?_
          rintro e w11 ⟨rfl, q⟩
          have X11 := Lib.hid (X10.out.below q)
          have F11 := Lib.hid (F10.out.below q)
          have Q11 := Lib.hid (bthen Q10.out q)
          have T11 := Lib.hid (T10.out.below q T10.out.lt)
          clear q X10 F10 Q10 T10 HO2
          obtain ⟨M3, hM3⟩ : ∃ M, w11.heap.size = M := ⟨_, rfl⟩
          have lM : M2 < M3 := by rw [← hM3]; exact T11.out.lt
          obtain ⟨w12, hw12⟩ : ∃ w12, (w11.alloc (.cells #[.int .i64 xc, .int .i64 xn, .bool xk, .int .i64 0, .int .i64 (xb - p), .int .i64 ((E - p : Nat) : Int)] 25)).alloc (.cells #[.int .i64 0, .int .i64 0] 28) = w12 := ⟨_, rfl⟩
          have B12 : Hid (Below w11.heap.size w11 w12) := by
            rw [← hw12]
            exact bal (bal (Below.refl _ _) _) _
          have X12 := Lib.hid (X11.out.below B12.out)
          have F12 := Lib.hid (F11.out.below B12.out)
          have Q12 := Lib.hid (bthen Q11.out B12.out)
          have T12 := Lib.hid (T11.out.below B12.out T11.out.lt)
          have Y12 : Hid (Blk w12 M3 25 #[.int .i64 xc, .int .i64 xn, .bool xk, .int .i64 0, .int .i64 (xb - p), .int .i64 ((E - p : Nat) : Int)]) := by
            rw [← hw12, ← hM3]
            exact (Blk.new w11 25 #[.int .i64 xc, .int .i64 xn, .bool xk, .int .i64 0, .int .i64 (xb - p), .int .i64 ((E - p : Nat) : Int)]).alloc _
          obtain ⟨M4, hM4⟩ : ∃ M, M3 + 1 = M := ⟨_, rfl⟩
          have Z12 : Hid (Blk w12 M4 28 #[.int .i64 0, .int .i64 0]) := by
            rw [← hw12, ← hM4, ← hM3]
            have := Blk.new (w11.alloc (.cells #[.int .i64 xc, .int .i64 xn, .bool xk, .int .i64 0, .int .i64 (xb - p), .int .i64 ((E - p : Nat) : Int)] 25)) 28 #[.int .i64 0, .int .i64 0]
            rw [Hid]
            simpa using this
          have HW := Lib.hid hw12
          have HM4 := Lib.hid hM4
          clear hw12 hM4 B12 X11 F11 Q11 T11
          go_upto_region 17 with fail
          rw [HW.out, HM4.out]
          clear HW HM4 hM3
          obtain ⟨y0, y1, y2, y3, y4, y5⟩ := Y12.out.cellsE
          obtain ⟨z0, z1, zl, zf⟩ := Z12.out.cells2
          obtain ⟨x0, x1, x2, x3, x4, x5⟩ := T12.out.cellsE
          clear zf
          have HIS := Lib.hid (H6.out ⟨xc, xn, xk, 0, xb - p, ((E - p : Nat) : Int)⟩ xc xk xn _ Q12.out)
          rw [isE_self ⟨xc, xn, xk, 0, xb - p, ((E - p : Nat) : Int)⟩] at HIS
          unfold elV at HIS
          dsimp only at HIS
          go_wp2_with fail
          with_reducible refine (HIS.out).mono ?_
          rintro e w13 ⟨rfl, q⟩
          have X13 := Lib.hid (X12.out.below q)
          have F13 := Lib.hid (F12.out.below q)
          have Q13 := Lib.hid (bthen Q12.out q)
          have T13 := Lib.hid (T12.out.below q T12.out.lt)
          have Y13 := Lib.hid (Y12.out.below q Y12.out.lt)
          clear q y0 y1 y2 y3 y4 y5 z0 z1 zl x0 x1 x2 x3 x4 x5 HIS X12 F12 Q12 T12 Y12 Z12
          obtain ⟨y0, y1, y2, y3, y4, y5⟩ := Y13.out.cellsE
          obtain ⟨x0, x1, x2, x3, x4, x5⟩ := T13.out.cellsE
          go_wp2_with fail
          exact ⟨⟨j + 1, E, by omega, hET, by go_num, rfl, HR.out, F13.out, X13.out, Q13.out⟩, by simp [intOf]; omega⟩
        · obtain rfl : j = m := by omega
          have hlt2 : ¬ (j : Int) < j := by omega
          have hnil2 : es.drop j = [] := List.drop_of_length_le (by have := HM.out; omega)
          have hcv := CV9.out
          rw [hnil2] at hcv
          have hpT2 : p = T := hcv
          subst hpT2
          clear hcv hnil2 CV9
          go_wp2_with fail
          go_ret
          exact ⟨by simp, Q9.out⟩
    · have hes := HNIL.out hC
      have hm0 : m = 0 := by rw [← HM.out, hes]; rfl
      subst hm0
      have hcb : ((C : Int) != 0) = true := by rw [bne_iff_ne]; omega
      clear hes
      go_wp2_with fail
      go_ret
      exact ⟨rfl, Q8.out⟩
  · have hn2 : (2000 : Int) < n := by omega
    clear HA HL HT HO HI hx
    go_enter Try.func4, Try.ntmps4
    go_wp2_with fail
    with_reducible refine (H0.out _ Q0.out).mono ?_
    rintro e w1 ⟨rfl, q⟩
    have Q1 := Lib.hid (bthen Q0.out q)
    clear q
    go_wp2_with fail
    with_reducible refine (H0.out _ Q1.out).mono ?_
    rintro e w2 ⟨rfl, q⟩
    have Q2 := Lib.hid (bthen Q1.out q)
    clear q
    go_wp2_with fail
    go_ret
    exact ⟨rfl, Q2.out⟩
end Go.Proofs.Ytkkomaohcijhnaa
namespace Go.Proofs.Ytkkomaohcijhnaa
open Go.RowKit
set_option maxRecDepth 100000
set_option maxRecDepth 100000 in
theorem grow_nil {n : Nat} (hn : n ≤ 16777216) (w : World) :
    Calls Try.prog 53 #[.slice none 0 0, .int .i64 n] w fun e w' => ∃ a c, e = .returned (.slice a 0 c) ∧ Own w' w.heap.size 5 a 0 c [] ∧ Below w.heap.size w w' := by
  obtain ⟨i0, hi, hz0, hz1, hz2⟩ := info_parts info_u8
  have hn0 : (0 : Int) ≤ n := by omega
  have hn2 : (n : Int) ≤ 16777216 := by omega
  rcases Nat.eq_zero_or_pos n with h | h
  · subst h
    go_enter Try.func53, Try.ntmps53
    go_wp2
    go_ret
    exact ⟨none, 0, rfl, World.ownsRow_nil _ _ _ _, Below.refl _ _⟩
  · have h' : (0 : Int) < n := by omega
    have hr := fun ty => Lib.run_append_nil_zeros (P := Try.prog) w 22 3 ty 5 i0 (.int .u8 0) .i64 .i64 Try.underlying22 Try.underlying3 hi hz0 n h (by rw [hz1]; omega) (by omega) (by rw [hz2]; omega)
    have hG := grownCap_ge w n 0 5
    have hG2 := grownCap_le_maxLen w n 0 5 (by unfold maxLen; omega)
    generalize grownCap w n 0 5 = G at *
    have HR := Lib.hid hr
    clear hr
    have hGm : G ≤ 9223372036854775807 := by unfold maxLen at hG2; omega
    have HO := Lib.hid (World.ownsRow_made (e := 5) (size := 1) (base := w.heap.size) w.drew (Builtin.zeroCells (Value.int .u8 0).cells n ++ Builtin.zeroCells (Value.int .u8 0).cells (G - n)) G (Nat.le_refl _) hG2 (by simp [Builtin.zeroCells, Value.cells]; omega))
    go_enter Try.func53, Try.ntmps53
    go_wp2_with (at_builtin; go_must (refine Lib.wpList_append_run _ rfl _ _ _ _ rfl _ _ rfl rfl _ _ (HR.out _) ?_))
    go_wp2
    go_ret
    exact ⟨_, _, rfl, HO.out, bal (below_drewN (Below.refl _ _) 1) _⟩
set_option maxRecDepth 100000 in
set_option maxHeartbeats 1000000 in
theorem concat_any {w : World} {b : Nat} {ss : List Sl} (hr : Rows w b ss) (hb : b < w.heap.size) (ht : tot ss ≤ 16777216) (hl : ss.length ≤ 1000) :
    Calls Try.prog 38 #[.slice (some ⟨b, 0, none⟩) ss.length ss.length] w fun e w' => ∃ a c, e = .returned (.slice a (tot ss) c) ∧ Own w' w.heap.size 5 a (tot ss) c (cat ss) ∧ Below w.heap.size w w' := by
  obtain ⟨i0, hi, hz0, hz1, hz2⟩ := info_parts info_u8
  obtain ⟨L, hL⟩ : ∃ L, Hid (ss.length = L) := ⟨_, rfl⟩
  have HR := Lib.hid hr
  have hL1 : (L : Int) ≤ 1000 := by have := hL.out; omega
  rw [hL.out]
  clear hr hl
  go_enter Try.func38, Try.ntmps38
  go_wp2_with fail
  go_loop [3, 11] (fun s i => ∃ k : Nat, k ≤ L ∧ i = .int .i64 k ∧ s = .int .i64 (tot (ss.take k))) (fun _ i => L - (intOf i).toNat)
  case atStart => exact ⟨0, Nat.zero_le _, rfl, rfl⟩
  case round =>
    obtain ⟨k, hk, rfl, rfl⟩ := hrel
    obtain ⟨T, hT⟩ : ∃ T, Hid (tot (ss.take k) = T) := ⟨_, rfl⟩
    have hTb : (T : Int) ≤ 16777216 := by have := tot_take_le ss k; have := hT.out; omega
    rw [hT.out]
    by_cases hlt : k < L
    · have hks : k < ss.length := by have := hL.out; omega
      have hc := (HR.out k hks).1
      have hT2 := Lib.hid (tot_take hks)
      have hn : (ss[k].n : Int) ≤ 16777216 := by have := tot_take_le ss (k + 1); have := hT2.out; omega
      have hn2 : (T : Int) + ss[k].n ≤ 16777216 := by have := tot_take_le ss (k + 1); have := hT2.out; have := hT.out; omega
      rw [hT.out] at hT2
      generalize ss[k] = s at *
      have hkk : (k : Int) < L := by omega
      have hk0 : (0 : Int) ≤ k := by omega
      have hT0 : (0 : Int) ≤ T := by omega
      clear hks
      go_wp2
      go_round
      case rel => exact ⟨k + 1, by omega, by go_num, by rw [hT2.out]; rfl⟩
      case measure => simp [intOf]; omega
    · go_wp2_with fail
      have hkL : k = L := by omega
      have hTt : Hid (T = tot ss) := by
        have h1 := hT.out
        have h2 := hL.out
        rw [List.take_of_length_le (by omega)] at h1
        exact h1.symm
      clear hlt hk hkL
      refine (grow_nil (by omega) _).mono ?_
      rintro e w1 ⟨a1, c1, rfl, ho, hb1⟩
      have O1 := Lib.hid ho
      have B1 := Lib.hid hb1
      clear ho hb1
      go_wp2_with fail
      go_loopw [6, 27] (fun v i wr => ∃ k : Nat, ∃ a c, k ≤ L ∧ i = .int .i64 k ∧ v = .slice a (tot (ss.take k)) c ∧ Own wr w.heap.size 5 a (tot (ss.take k)) c (cat (ss.take k)) ∧ Below w.heap.size w wr) (fun _ i _ => L - (intOf i).toNat)
      case atStart => exact ⟨0, a1, c1, Nat.zero_le _, rfl, rfl, O1.out, B1.out⟩
      case round =>
        clear O1 B1 hT hTb hTt
        obtain ⟨k2, a2, c2, hk, rfl, rfl, ho, hb2⟩ := hrel
        have O2 := Lib.hid ho
        have B2 := Lib.hid hb2
        obtain ⟨M, hM⟩ : ∃ M, Hid (tot (ss.take k2) = M) := ⟨_, rfl⟩
        have hMb : (M : Int) ≤ 16777216 := by have := tot_take_le ss k2; have := hM.out; omega
        rw [hM.out] at O2 ⊢
        have hsz := hb2.size
        clear ho hb2
        by_cases hlt : k2 < L
        · have hks : k2 < ss.length := by have := hL.out; omega
          have hc := (B2.out.cell (p := ⟨b, k2, none⟩) hb).trans (HR.out k2 hks).1
          have hS := Lib.hid ((HR.out k2 hks).2.below B2.out)
          have hT2 := Lib.hid (tot_take hks)
          have hC2 := Lib.hid (cat_take hks)
          have hn2 : M + ss[k2].n ≤ 16777216 := by have := tot_take_le ss (k2 + 1); have := hT2.out; have := hM.out; omega
          rw [hM.out] at hT2
          generalize ss[k2] = s at *
          have hkk : (k2 : Int) < L := by omega
          have hk0 : (0 : Int) ≤ k2 := by omega
          clear hks
          go_wp2_with (at_builtin; go_must (refine wpList_app _ rfl _ _ 22 rfl w.heap.size 5 i0 Try.underlying22 hi hz0 hz1 hz2 a2 M c2 _ rfl O2.out s.a s.n s.c s.l rfl hS.out hn2 hsz ?_))
          intro a3 c3 w3 ho3 hg3
          have O3 := Lib.hid ho3
          have B3 := Lib.hid (B2.out.trans (app_below O2.out hg3 (Nat.le_refl _) hsz))
          clear ho3 hg3
          go_wp2
          go_roundw
          case rel => exact ⟨k2 + 1, a3, c3, by omega, by go_num, by rw [hT2.out], by rw [hT2.out, hC2.out]; exact O3.out, B3.out⟩
          case measure => simp [intOf]; omega
        · have hMt : Hid (M = tot ss) := by
            have h1 := hM.out
            have h2 := hL.out
            rw [List.take_of_length_le (by omega)] at h1
            exact h1.symm
          have hCt : Hid (cat (ss.take k2) = cat ss) := by
            have h2 := hL.out
            rw [List.take_of_length_le (by omega)]
            rfl
          rw [hCt.out] at O2
          go_wp2
          go_ret
          exact ⟨a2, c2, by rw [← hMt.out]; rfl, by rw [← hMt.out]; exact O2.out, B2.out⟩
end Go.Proofs.Ytkkomaohcijhnaa
namespace Go.Proofs.Ytkkomaohcijhnaa
open Go.RowKit
set_option maxRecDepth 100000
theorem encode_bad {c n : Int} (h : c < 0 ∨ 3 < c ∨ n < 0 ∨ 30 < n) (k : Bool) (s : Value) (w : World) :
    Calls Try.prog 37 #[.int .i64 c, .bool k, .int .i64 n, s] w fun e w' => e = .returned (.tuple #[.slice none 0 0, .int .i64 9]) ∧ w = w' := by
  have H := Lib.hid (fun w => identifier_bad h k w)
  clear h
  go_enter Try.func37, Try.ntmps37
  go_wp2_with (go_at_call 48; go_must (refine (H.out _).mono ?_); rintro e w' ⟨rfl, rfl⟩)
  go_ret2
  exact ⟨rfl, rfl⟩
theorem rows3 {w : World} {t : TypeId} {b : Nat} {s0 s1 s2 : Sl} (hb : Blk w b t #[.slice s0.a s0.n s0.c, .slice s1.a s1.n s1.c, .slice s2.a s2.n s2.c]) (h0 : Bs w s0.a s0.n s0.c s0.l) (h1 : Bs w s1.a s1.n s1.c s1.l) (h2 : Bs w s2.a s2.n s2.c s2.l) : Rows w b [s0, s1, s2] := by
  intro i hi
  match i, hi with
  | 0, _ => exact ⟨hb.cell 0, h0⟩
  | 1, _ => exact ⟨hb.cell 1, h1⟩
  | 2, _ => exact ⟨hb.cell 2, h2⟩
set_option maxHeartbeats 1000000 in
theorem encode_ok {cl nu : Nat} (hc : cl ≤ 3) (hn : nu ≤ 30) (k : Bool) {w : World} {a : Option Addr} {n c : Nat} {l : List UInt8} (hx : Bs w a n c l) (hz : n ≤ 1000000) :
    Calls Try.prog 37 #[.int .i64 cl, .bool k, .int .i64 nu, .slice a n c] w fun e w' => ∃ a' c', e = .returned (.tuple #[.slice a' (encB cl nu k l).length c', .int .i64 0]) ∧ Own w' w.heap.size 5 a' (encB cl nu k l).length c' (encB cl nu k l) ∧ Below w.heap.size w w' := by
  have H := Lib.hid (fun w => identifier_ok hc hn k w)
  have HL := Lib.hid (fun w => length_ok (n := n) (by omega) w)
  have HX := Lib.hid hx
  have hid := Lib.hid (encB_len cl nu k l)
  have hb := lenOct_bd (n := n) (by omega)
  rw [hx.len] at hid
  have he : Hid (encB cl nu k l = [idByte cl nu k] ++ (lenOct n ++ l)) := by show encB cl nu k l = _; unfold encB; rw [hx.len]; rfl
  rw [hid.out, he.out]
  generalize idByte cl nu k = x at *
  generalize lenOct n = o at *
  clear hx hid he
  go_enter Try.func37, Try.ntmps37
  go_wp2_with fail
  refine (H.out _).mono ?_
  rintro e w' ⟨rfl, rfl⟩
  go_wp2_with fail
  refine (HL.out _).mono ?_
  rintro e w1 ⟨a1, c1, rfl, ho, q⟩
  have O1 := Lib.hid ho.bs
  have X1 := Lib.hid (HX.out.below q)
  have B1 := Lib.hid q
  clear ho q HL H HX
  have hbw := B1.out.size
  have L1 := Lib.hid (bs_lit w1 5 #[.int .u8 x.toNat] [x] 1 rfl rfl (by decide))
  have R1 := Lib.hid (rows3 (s0 := ⟨some ⟨w1.heap.size, 0, none⟩, 1, 1, [x]⟩) (s1 := ⟨a1, o.length, c1, o⟩) (s2 := ⟨a, n, c, l⟩) (by simpa using Blk.new (w1.alloc (.cells #[.int .u8 x.toNat] 5)) 22 #[.slice (some ⟨w1.heap.size, 0, none⟩) 1 1, .slice a1 o.length c1, .slice a n c]) (L1.out.alloc _) ((O1.out.alloc _).alloc _) ((X1.out.alloc _).alloc _))
  have ht : Hid (tot [⟨some ⟨w1.heap.size, 0, none⟩, 1, 1, [x]⟩, ⟨a1, o.length, c1, o⟩, ⟨a, n, c, l⟩] = 1 + (o.length + n)) := by show _ = _; simp [tot]
  have hcat : Hid (cat [⟨some ⟨w1.heap.size, 0, none⟩, 1, 1, [x]⟩, ⟨a1, o.length, c1, o⟩, ⟨a, n, c, l⟩] = [x] ++ (o ++ l)) := by show _ = _; simp [cat]
  have HC := Lib.hid (concat_any R1.out (by simp) (by rw [ht.out]; omega) (by simp))
  rw [ht.out, hcat.out] at HC
  clear ht hcat
  go_wp2_with fail
  refine HC.out.mono ?_
  rintro e w2 ⟨a2, c2, rfl, ho, q⟩
  have O2 := Lib.hid (ho.more (B' := w.heap.size) (by simp; omega))
  have B2 := Lib.hid (bthen (bal (bal B1.out _) _) q)
  clear ho q HC
  go_wp2
  go_ret2
  exact ⟨a2, c2, rfl, O2.out, B2.out⟩
end Go.Proofs.Ytkkomaohcijhnaa
namespace Go.Proofs.Ytkkomaohcijhnaa
open Go.RowKit
set_option maxRecDepth 100000
theorem ref_encode_bad {c n : Int} (h : c < 0 ∨ 3 < c ∨ n < 0 ∨ 30 < n) (k : Bool) (s : Value) (w : World) :
    Calls Try.prog 39 #[.int .i64 c, .bool k, .int .i64 n, s] w fun e w' => e = .returned (.tuple #[.slice none 0 0, .int .i64 9]) ∧ w = w' := by
  have H := Lib.hid (fun w => ref_identifier_bad h k w)
  clear h
  go_enter Try.func39, Try.ntmps39
  go_wp2_with (go_at_call 36; go_must (refine (H.out _).mono ?_); rintro e w' ⟨rfl, rfl⟩)
  go_ret2
  exact ⟨rfl, rfl⟩
set_option maxHeartbeats 1000000 in
theorem ref_encode_ok {cl nu : Nat} (hc : cl ≤ 3) (hn : nu ≤ 30) (k : Bool) {w : World} {a : Option Addr} {n c : Nat} {l : List UInt8} (hx : Bs w a n c l) (hz : n ≤ 1000000) :
    Calls Try.prog 39 #[.int .i64 cl, .bool k, .int .i64 nu, .slice a n c] w fun e w' => ∃ a' c', e = .returned (.tuple #[.slice a' (encB cl nu k l).length c', .int .i64 0]) ∧ Own w' w.heap.size 5 a' (encB cl nu k l).length c' (encB cl nu k l) ∧ Below w.heap.size w w' := by
  obtain ⟨i0, hi, hz0, hz1, hz2⟩ := info_parts info_u8
  have H := Lib.hid (fun w => ref_identifier_ok hc hn k w)
  have HL := Lib.hid (fun w => ref_length_ok (n := n) (by omega) w)
  have HX := Lib.hid hx
  have hid := Lib.hid (encB_len cl nu k l)
  have hb := lenOct_bd (n := n) (by omega)
  rw [hx.len] at hid
  have he : Hid (encB cl nu k l = ([idByte cl nu k] ++ lenOct n) ++ l) := by show encB cl nu k l = _; unfold encB; rw [hx.len]; rfl
  rw [hid.out, he.out]
  generalize idByte cl nu k = x at *
  generalize lenOct n = o at *
  clear hx hid he
  go_enter Try.func39, Try.ntmps39
  go_wp2_with fail
  refine (H.out _).mono ?_
  rintro e w' ⟨rfl, rfl⟩
  go_wp2_with fail
  refine (HL.out _).mono ?_
  rintro e w1 ⟨a1, c1, rfl, ho, q⟩
  have O1 := Lib.hid ho.bs
  have X1 := Lib.hid (HX.out.below q)
  have B1 := Lib.hid q
  have hbw := q.size
  have hl1 : Hid (#[Value.int .u8 x.toNat].toList = cellsOf [x]) := rfl
  clear ho q HL H
  go_wp2_with (at_builtin; go_must (refine wpList_app _ rfl _ _ 22 rfl w.heap.size 5 i0 Try.underlying22 hi hz0 hz1 hz2 (some ⟨w1.heap.size, 0, none⟩) 1 1 [x] rfl (own_lit _ _ _ 1 hl1.out rfl (by decide) hbw) a1 o.length c1 o rfl (O1.out.alloc _) ?c1 ?c2 ?_))
  case c1 => omega
  case c2 => simp; omega
  intro a2 c2 w2 ho2 hg2
  have O2 := Lib.hid ho2
  have B2 := Lib.hid ((bal B1.out _).grown hg2 (by simp; omega) (fun k hk => by simp [Value.ownBlock] at hk; omega))
  have X2 := Lib.hid (HX.out.below B2.out)
  have hbw2 := B2.out.size
  clear ho2 hg2 X1 O1
  go_wp2_with (at_builtin; go_must (refine wpList_app _ rfl _ _ 22 rfl w.heap.size 5 i0 Try.underlying22 hi hz0 hz1 hz2 a2 (1 + o.length) c2 _ rfl O2.out a n c l rfl X2.out ?q1 ?q2 ?_))
  case q1 => omega
  case q2 => exact hbw2
  intro a3 c3 w3 ho3 hg3
  have O3 := Lib.hid ho3
  have B3 := Lib.hid (B2.out.trans (app_below O2.out hg3 (Nat.le_refl _) hbw2))
  clear ho3 hg3
  go_wp2
  go_ret2
  exact ⟨a3, c3, by rw [← Nat.add_assoc]; rfl, by have := O3.out; rw [Nat.add_assoc] at this; exact this, B3.out⟩
end Go.Proofs.Ytkkomaohcijhnaa
namespace Go.Proofs.Ytkkomaohcijhnaa
open Go.RowKit
def encR (cl nu : Int) (k : Bool) (l : List UInt8) : List UInt8 × Int := if 0 ≤ cl ∧ cl ≤ 3 ∧ 0 ≤ nu ∧ nu ≤ 30 then (encB cl.toNat nu.toNat k l, 0) else ([], 9)
theorem ref_encode_any (cl nu : Int) (k : Bool) {w : World} {a : Option Addr} {n c : Nat} {l : List UInt8} (hx : Bs w a n c l) (hz : n ≤ 1000000) :
    Calls Try.prog 39 #[.int .i64 cl, .bool k, .int .i64 nu, .slice a n c] w fun e w' => ∃ a' c', e = .returned (.tuple #[.slice a' (encR cl nu k l).1.length c', .int .i64 (encR cl nu k l).2]) ∧ Own w' w.heap.size 5 a' (encR cl nu k l).1.length c' (encR cl nu k l).1 ∧ Below w.heap.size w w' := by
  unfold encR
  by_cases h : 0 ≤ cl ∧ cl ≤ 3 ∧ 0 ≤ nu ∧ nu ≤ 30
  · obtain ⟨x, rfl⟩ : ∃ x : Nat, cl = x := ⟨cl.toNat, by omega⟩
    obtain ⟨y, rfl⟩ : ∃ y : Nat, nu = y := ⟨nu.toNat, by omega⟩
    rw [if_pos h]
    exact ref_encode_ok (by omega) (by omega) k hx hz
  · rw [if_neg h]
    refine (ref_encode_bad (by omega) k _ w).mono ?_
    rintro e w' ⟨he, rfl⟩
    exact ⟨none, 0, he, World.ownsRow_nil _ _ _ _, Below.refl _ _⟩
set_option maxRecDepth 100000 in
set_option maxHeartbeats 8000000 in
theorem ref_wrap_own (cl nu : Int) (k : Bool) {w : World} {a : Option Addr} {n c : Nat} {ss : List Sl} (hx : Rw w a n c ss) (hn : n ≤ 1000) (ht : tot ss ≤ 900000) :
    Calls Try.prog 23 #[.int .i64 cl, .bool k, .int .i64 nu, .slice a n c] w fun e w' => ∃ a' c', e = .returned (.tuple #[.slice a' (encR cl nu k (cat ss)).1.length c', .int .i64 (encR cl nu k (cat ss)).2]) ∧ Own w' w.heap.size 5 a' (encR cl nu k (cat ss)).1.length c' (encR cl nu k (cat ss)).1 ∧ Below w.heap.size w w' := by
  obtain ⟨i0, hi, hz0, hz1, hz2⟩ := info_parts info_u8
  have HE := Lib.hid (fun v a m c (h : Bs v a m c (cat ss)) (hz : m ≤ 1000000) => ref_encode_any cl nu k h hz)
  have HL := Lib.hid hx.len
  have HX := Lib.hid hx
  have HT := Lib.hid ht
  obtain ⟨H, hH⟩ : ∃ H, w.heap.size = H := ⟨_, rfl⟩
  rw [hH]
  have HH := Lib.hid hH
  clear hx hH ht
  go_enter Try.func23, Try.ntmps23
  go_wp2_with fail
  go_loopw [10, 11] (fun o i wr => ∃ ao co, ∃ j : Nat, j ≤ n ∧ i = .int .i64 j ∧ o = .slice ao (tot (ss.take j)) co ∧ Own wr H 5 ao (tot (ss.take j)) co (cat (ss.take j)) ∧ Below H w wr ∧ H ≤ wr.heap.size) (fun _ i _ => n - (intOf i).toNat)
  case atStart => exact ⟨none, 0, 0, Nat.zero_le _, rfl, rfl, World.ownsRow_nil _ _ _ _, Below.refl _ _, Nat.le_of_eq HH.out.symm⟩
  case round =>
    obtain ⟨ao, co, j, hj, rfl, rfl, ho, hq, hsz⟩ := hrel
    have O4 := Lib.hid ho
    have Q4 := Lib.hid hq
    have X4 : Hid (Rw wr a n c ss) := HX.out.below (by rw [HH.out]; exact hq)
    clear ho hq
    have hj0 : (0 : Int) ≤ j := by omega
    by_cases hlt : j < n
    · have hlt2 : (j : Int) < n := by omega
      obtain ⟨b1, o1, hjl, rfl, h1, c1, s1⟩ := X4.out.at_ hlt
      have TT := Lib.hid (tot_take hjl)
      have CT := Lib.hid (cat_take hjl)
      have hle := tot_take_le ss (j + 1)
      have htt := HT.out
      rw [TT.out] at hle
      have hlm : tot (ss.take j) + ss[j].n ≤ 16777216 := by omega
      clear hle htt
      obtain ⟨N, hN⟩ : ∃ N, tot (ss.take j) = N := ⟨_, rfl⟩
      have HN := Lib.hid hN
      rw [hN] at O4 hlm TT ⊢
      clear hN
      obtain ⟨x, hxx⟩ : ∃ x, ss[j] = x := ⟨_, rfl⟩
      rw [hxx] at TT CT hlm c1 s1
      have SX := Lib.hid s1
      clear hxx s1
      obtain ⟨xa, xn, xc, xl⟩ := x
      dsimp only at TT CT hlm c1 SX
      go_wp2_with (at_builtin; go_must (refine wpList_app _ rfl _ _ 22 rfl H 5 i0 Try.underlying22 hi hz0 hz1 hz2 ao N co _ rfl O4.out xa xn xc xl rfl SX.out hlm hsz ?_))
      intro a5 c5 w5 ho5 hg5
      have B5 := Lib.hid (app_below (O4.out) hg5 (Nat.le_refl _) hsz)
      have Q5 : Hid (Below H w w5) := Q4.out.trans B5.out
      have O5 := Lib.hid ho5
      have hs5 : H ≤ w5.heap.size := by have := B5.out.size; omega
      clear ho5 hg5 B5
      go_wp2
      go_roundw
      case rel => exact ⟨a5, c5, j + 1, by omega, by go_num, by rw [TT.out], by rw [TT.out, CT.out]; exact O5.out, Q5.out, hs5⟩
      case measure => simp [intOf]; omega
    · obtain rfl : j = n := by omega
      have hlt2 : ¬ (j : Int) < j := by omega
      have e : ss.take j = ss := List.take_of_length_le (by have := HL.out; omega)
      rw [e] at O4 ⊢
      have hbd : tot ss ≤ 1000000 := by have := HT.out; omega
      go_wp2_with fail
      with_reducible refine (HE.out _ _ _ _ O4.out.bs hbd).mono ?_
      rintro e w5 ⟨a5, c5, rfl, ho5, q⟩
      have Q5 : Hid (Below H w w5) := Q4.out.trans (q.mono hsz)
      have S5 := Lib.hid (ho5.more hsz)
      clear q ho5
      go_wp2_with fail
      go_ret2
      exact ⟨a5, c5, rfl, S5.out, Q5.out⟩
theorem ref_wrap_any (cl nu : Int) (k : Bool) {w : World} {a : Option Addr} {n c : Nat} {ss : List Sl} (hx : Rw w a n c ss) (hn : n ≤ 1000) (ht : tot ss ≤ 900000) :
    Calls Try.prog 23 #[.int .i64 cl, .bool k, .int .i64 nu, .slice a n c] w fun e w' => ∃ a' c', e = .returned (.tuple #[.slice a' (encR cl nu k (cat ss)).1.length c', .int .i64 (encR cl nu k (cat ss)).2]) ∧ Bs w' a' (encR cl nu k (cat ss)).1.length c' (encR cl nu k (cat ss)).1 ∧ Below w.heap.size w w' :=
  (ref_wrap_own cl nu k hx hn ht).mono fun _ _ ⟨a', c', he, ho, hq⟩ => ⟨a', c', he, ho.bs, hq⟩
end Go.Proofs.Ytkkomaohcijhnaa
namespace Go.Proofs.Ytkkomaohcijhnaa
open Go.RowKit
theorem aw_lst : lstR [2, 1, 5, 5, 0] 0 5 = ⟨[⟨0, 2, false, 0, 2, 3⟩, ⟨0, 5, false, 3, 5, 5⟩], 0, 0⟩ := by
  have e2 : elN [5, 0] = 2 := rfl
  have e1 : elN [2, 1, 5, 5, 0] = 3 := rfl
  have r3 : rdEls (([5, 0] : List UInt8).drop (elN [5, 0])) (3 + elN [5, 0]) = ⟨[], 0, 0⟩ := by rw [e2]; exact rdEls_nil _
  have r2 : rdEls [5, 0] 3 = ⟨[⟨0, 5, false, 3, 5, 5⟩], 0, 0⟩ := by
    rw [rdEls_ok 3 (by decide) rfl (by rw [r3]), r3]
    rfl
  have r2' : rdEls (([2, 1, 5, 5, 0] : List UInt8).drop (elN [2, 1, 5, 5, 0])) (0 + elN [2, 1, 5, 5, 0]) = ⟨[⟨0, 5, false, 3, 5, 5⟩], 0, 0⟩ := by rw [e1]; exact r2
  unfold lstR
  rw [if_neg (by decide)]
  show rdEls [2, 1, 5, 5, 0] 0 = _
  rw [rdEls_ok 0 (by decide) rfl (by rw [r2']), r2']
  rfl
theorem aw_tags : tagsR [⟨0, 2, false, 0, 2, 3⟩, ⟨0, 5, false, 3, 5, 5⟩] = [48, 50, 32, 48, 53] := by decide
theorem aw_seq : encR 0 16 true [2, 1, 5] = ([48, 3, 2, 1, 5], 0) := by decide
theorem ew_lit {w : World} {g : Nat} {t : TypeId} {es : List El} {cs : Array Value} {n : Nat} (h : Blk w g t cs) (he : cs.toList = cellsE es) (hn : es.length = n) (hm : n ≤ maxLen) : Ew w (some ⟨g, 0, none⟩) n n es := by
  refine ⟨hn, Nat.le_refl _, hm, fun _ => ⟨g, 0, rfl, h.lt, fun i hi j v hj => ?_⟩⟩
  have hj6 : j < 6 := by
    rcases Nat.lt_or_ge j 6 with h | h
    · exact h
    · rw [List.getElem?_eq_none (by rw [elCs_len]; exact h)] at hj; cases hj
  rw [Nat.zero_add, h.cell, ← Array.getElem?_toList, he, cellsE_at es i j hi hj6]
  exact hj
set_option maxRecDepth 100000 in
set_option maxHeartbeats 8000000 in
theorem elawake_walk (w : World)
    (HL : ∀ (v : World) (a : Option Addr) (n c : Nat) (l : List UInt8) (f t : Int), n ≤ 1000000 → Bs v a n c l → Below w.heap.size w v → Calls Try.prog 14 #[.slice a n c, .int .i64 f, .int .i64 t] v fun e w' => ∃ a' c', e = .returned (.tuple #[.slice a' (lstR l f t).els.length c', erV (lstR l f t).code (lstR l f t).off]) ∧ Ew w' a' (lstR l f t).els.length c' (lstR l f t).els ∧ Below v.heap.size v w')
    (HS : ∀ (v : World) (a : Option Addr) (n c : Nat) (ss : List Sl), n ≤ 1000 → tot ss ≤ 900000 → Rw v a n c ss → Below w.heap.size w v → Calls Try.prog 24 #[.slice a n c] v fun e w' => ∃ a' c', e = .returned (.tuple #[.slice a' (encR 0 16 true (cat ss)).1.length c', .int .i64 (encR 0 16 true (cat ss)).2]) ∧ Bs w' a' (encR 0 16 true (cat ss)).1.length c' (encR 0 16 true (cat ss)).1 ∧ Below v.heap.size v w')
    (HT : ∀ (v : World) (a : Option Addr) (n c : Nat) (es : List El), n ≤ 1000000 → Ew v a n c es → Below w.heap.size w v → Calls Try.prog 17 #[.slice a n c] v fun e w' => e = .returned (.string ⟨(tagsR es).toArray⟩) ∧ Below v.heap.size v w') :
    Calls Try.prog 10 #[] w fun e w' => e = .returned (.bool true) ∧ Below w.heap.size w w' := by
  have H1 := Lib.hid (fun v a (h : Bs v a 5 5 [2, 1, 5, 5, 0]) q => HL v a 5 5 _ 0 5 (by omega) h q)
  rw [aw_lst] at H1
  unfold erV at H1
  dsimp only [List.length_cons, List.length_nil] at H1
  have H3 := Lib.hid (fun v a c h q => HT v a 2 c [⟨0, 2, false, 0, 2, 3⟩, ⟨0, 5, false, 3, 5, 5⟩] (by omega) h q)
  rw [aw_tags] at H3
  obtain ⟨A, hA⟩ : ∃ A, w.heap.size = A := ⟨_, rfl⟩
  have B1 := Lib.hid (bs_lit_at (w := w) (e := 5) (cs := #[.int .u8 2, .int .u8 1, .int .u8 5, .int .u8 5, .int .u8 0]) (l := [2, 1, 5, 5, 0]) (n := 5) hA rfl rfl (by decide))
  have Q1 := Lib.hid (bal (Below.refl w.heap.size w) (.cells #[.int .u8 2, .int .u8 1, .int .u8 5, .int .u8 5, .int .u8 0] 5))
  go_enter Try.func10, Try.ntmps10
  go_wp2_with fail
  generalize w.alloc (.cells #[.int .u8 2, .int .u8 1, .int .u8 5, .int .u8 5, .int .u8 0] 5) = w1 at *
  clear hA HL HT
  with_reducible refine (H1.out _ _ B1.out Q1.out).mono ?_
  rintro e w2 ⟨a2, c2, rfl, h2, q⟩
  have Q2 := Lib.hid (bthen Q1.out q)
  have E2 := Lib.hid h2
  clear q h2 B1 Q1 H1
  obtain ⟨G, hG⟩ : ∃ G, w2.heap.size = G := ⟨_, rfl⟩
  have E2' : Hid (Ew w2 a2 2 c2 [⟨0, 2, false, 0, 2, 3⟩, ⟨0, 5, false, 3, 5, 5⟩]) := E2.out
  have E3 := Lib.hid (E2'.out.alloc (.cells #[.int .i64 0, .int .i64 0] 28))
  have Q3 := Lib.hid (bal Q2.out (.cells #[.int .i64 0, .int .i64 0] 28))
  have K3 : Hid (Blk (w2.alloc (.cells #[.int .i64 0, .int .i64 0] 28)) G 28 #[.int .i64 0, .int .i64 0]) := by rw [← hG]; exact Blk.new _ _ _
  go_upto_region 2 with fail
  generalize w2.alloc (.cells #[.int .i64 0, .int .i64 0] 28) = w3 at *
  clear hG E2 E2' Q2
  obtain ⟨D, hD⟩ : ∃ D, w3.heap.size = D := ⟨_, rfl⟩
  obtain ⟨D2, hD2⟩ : ∃ D2, D + 1 = D2 := ⟨_, rfl⟩
  obtain ⟨w5, hw5⟩ : ∃ w5, (w3.alloc (.cells #[.int .u8 2, .int .u8 1, .int .u8 5] 5)).alloc (.cells #[.slice (some ⟨D, 0, none⟩) 3 3] 22) = w5 := ⟨_, rfl⟩
  have R5 : Hid (Rw w5 (some ⟨D2, 0, none⟩) 1 1 [⟨some ⟨D, 0, none⟩, 3, 3, [2, 1, 5]⟩]) := by
    have k := Blk.new (w3.alloc (.cells #[.int .u8 2, .int .u8 1, .int .u8 5] 5)) 22 #[.slice (some ⟨D, 0, none⟩) 3 3]
    have hsz : (w3.alloc (.cells #[.int .u8 2, .int .u8 1, .int .u8 5] 5)).heap.size = D2 := by rw [← hD2, ← hD]; simp
    rw [hsz, hw5] at k
    have b := (bs_lit_at (w := w3) (e := 5) (cs := #[.int .u8 2, .int .u8 1, .int .u8 5]) (l := [2, 1, 5]) (n := 3) hD rfl rfl (by decide)).alloc (.cells #[.slice (some ⟨D, 0, none⟩) 3 3] 22)
    rw [hw5] at b
    refine ⟨⟨rfl, Nat.le_refl _, by decide, fun _ => ⟨D2, 0, rfl, k.lt, fun i hi => ?_⟩⟩, fun i hi => ?_⟩
    · have : i = 0 := by simp at hi; exact hi
      subst this
      rw [Nat.zero_add, k.cell]
      rfl
    · have : i = 0 := by simp at hi; exact hi
      subst this
      exact b
  have Q5 : Hid (Below w.heap.size w w5) := by rw [← hw5]; exact bal (bal Q3.out _) _
  have E5 : Hid (Ew w5 a2 2 c2 [⟨0, 2, false, 0, 2, 3⟩, ⟨0, 5, false, 3, 5, 5⟩]) := by rw [← hw5]; exact (E3.out.alloc _).alloc _
  have K5 : Hid (Blk w5 G 28 #[.int .i64 0, .int .i64 0]) := by rw [← hw5]; exact (K3.out.alloc _).alloc _
  have HS2 := Lib.hid (HS w5 _ 1 1 _ (by omega) (by show 3 + 0 ≤ 900000; omega) R5.out Q5.out)
  have hcat : cat [⟨some ⟨D, 0, none⟩, 3, 3, [2, 1, 5]⟩] = [2, 1, 5] := rfl
  rw [hcat, aw_seq] at HS2
  dsimp only [List.length_cons, List.length_nil] at HS2
  clear HS hcat K3 E3 Q3
  go_wp2_with fail
  with_reducible refine (HS2.out).mono ?_
  rintro e w6 ⟨a6, c6, rfl, hb6, q⟩
  have K6 := Lib.hid (K5.out.below q K5.out.lt)
  have E6 := Lib.hid (E5.out.below q)
  have Q6 := Lib.hid (bthen Q5.out q)
  have S6 : Hid (Bs w6 a6 5 c6 [48, 3, 2, 1, 5]) := hb6
  clear q hb6 K5 E5 Q5 R5 HS2 hw5 hD hD2
  obtain ⟨k0, k1, kl, kf⟩ := K6.out.cells2
  clear kf
  obtain ⟨M, hM⟩ : ∃ M, w6.heap.size = M := ⟨_, rfl⟩
  have Q7 := Lib.hid (bal Q6.out (.cells #[.int .i64 0, .int .i64 2, .bool false, .int .i64 0, .int .i64 2, .int .i64 3, .int .i64 0, .int .i64 5, .bool false, .int .i64 3, .int .i64 5, .int .i64 5] 25))
  have E7 := Lib.hid (E6.out.alloc (.cells #[.int .i64 0, .int .i64 2, .bool false, .int .i64 0, .int .i64 2, .int .i64 3, .int .i64 0, .int .i64 5, .bool false, .int .i64 3, .int .i64 5, .int .i64 5] 25))
  have S7 := Lib.hid (S6.out.alloc (.cells #[.int .i64 0, .int .i64 2, .bool false, .int .i64 0, .int .i64 2, .int .i64 3, .int .i64 0, .int .i64 5, .bool false, .int .i64 3, .int .i64 5, .int .i64 5] 25))
  have L7 : Hid (Ew (w6.alloc (.cells #[.int .i64 0, .int .i64 2, .bool false, .int .i64 0, .int .i64 2, .int .i64 3, .int .i64 0, .int .i64 5, .bool false, .int .i64 3, .int .i64 5, .int .i64 5] 25)) (some ⟨M, 0, none⟩) 2 2 [⟨0, 2, false, 0, 2, 3⟩, ⟨0, 5, false, 3, 5, 5⟩]) := by
    rw [← hM]
    exact ew_lit (Blk.new w6 25 _) rfl rfl (by decide)
  have HB := Lib.hid (els_self E7.out L7.out)
  go_wp2_with fail
  generalize w6.alloc (.cells #[.int .i64 0, .int .i64 2, .bool false, .int .i64 0, .int .i64 2, .int .i64 3, .int .i64 0, .int .i64 5, .bool false, .int .i64 3, .int .i64 5, .int .i64 5] 25) = w7 at *
  clear hM K6 E6 Q6 S6 k0 k1 kl L7
  with_reducible refine (HB.out).mono ?_
  rintro e w8 ⟨rfl, k, rfl⟩
  have E8 := Lib.hid (E7.out.drewN k)
  have Q8 := Lib.hid (below_drewN Q7.out k)
  have S8 := Lib.hid (S7.out.drewN k)
  generalize w7.drewN k = w8 at *
  clear HB E7 Q7 S7
  go_wp2_with fail
  with_reducible refine (H3.out _ _ _ E8.out Q8.out).mono ?_
  rintro e w9 ⟨rfl, q⟩
  have Q9 := Lib.hid (bthen Q8.out q)
  have S9 := Lib.hid (S8.out.below q)
  clear q E8 Q8 S8
  obtain ⟨M9, hM9⟩ : ∃ M, w9.heap.size = M := ⟨_, rfl⟩
  have B9 := Lib.hid (bs_lit_at (w := w9) (e := 5) (cs := #[.int .u8 48, .int .u8 3, .int .u8 2, .int .u8 1, .int .u8 5]) (l := [48, 3, 2, 1, 5]) (n := 5) hM9 rfl rfl (by decide))
  have S10 := Lib.hid (S9.out.alloc (.cells #[.int .u8 48, .int .u8 3, .int .u8 2, .int .u8 1, .int .u8 5] 5))
  have Q10 := Lib.hid (bal Q9.out (.cells #[.int .u8 48, .int .u8 3, .int .u8 2, .int .u8 1, .int .u8 5] 5))
  have HBY := Lib.hid (bytes_any S10.out B9.out)
  rw [eqB_self] at HBY
  go_wp2_with fail
  with_reducible refine (HBY.out).mono ?_
  rintro e w11 ⟨rfl, rfl⟩
  go_wp2_with fail
  go_ret
  exact ⟨rfl, Q10.out⟩
end Go.Proofs.Ytkkomaohcijhnaa
namespace Go.Proofs.Ytkkomaohcijhnaa
open Go.RowKit
theorem and15 (x : UInt8) : bits BinOp.and IntKind.u8 (x.toNat : Int) 15 = ((x.toNat % 16 : Nat) : Int) := by
  have h : ∀ i : Fin 256, bits BinOp.and IntKind.u8 ((i.val : Nat) : Int) 15 = ((i.val % 16 : Nat) : Int) := by decide +kernel
  exact h ⟨x.toNat, by have := UInt8.toNat_lt x; omega⟩
theorem hex_at {k : Nat} (h : k < 16) : ∃ hh : k < hexS.size, hexS[k]'hh = hexB k := by
  rcases (by omega : k = 0 ∨ k = 1 ∨ k = 2 ∨ k = 3 ∨ k = 4 ∨ k = 5 ∨ k = 6 ∨ k = 7 ∨ k = 8 ∨ k = 9 ∨ k = 10 ∨ k = 11 ∨ k = 12 ∨ k = 13 ∨ k = 14 ∨ k = 15) with rfl | rfl | rfl | rfl | rfl | rfl | rfl | rfl | rfl | rfl | rfl | rfl | rfl | rfl | rfl | rfl <;> exact ⟨by decide, rfl⟩
theorem conv_two (v : World) (x y : UInt8) (t : TypeId) : (convert 22 9 (.slice (some ⟨v.heap.size, 0, none⟩) 2 2)).run Try.prog (v.alloc (.cells #[.int .u8 x.toNat, .int .u8 y.toNat] t)).drew = .ok (.string ⟨[x, y].toArray⟩) (v.alloc (.cells #[.int .u8 x.toNat, .int .u8 y.toNat] t)).drew := by
  have hB := Blk.new v t #[.int .u8 x.toNat, .int .u8 y.toNat]
  have h := run_convert_bytes_arg (P := Try.prog) (v.alloc (.cells #[.int .u8 x.toNat, .int .u8 y.toNat] t)).drew 22 5 Try.underlying22 Try.underlying5 v.heap.size 0 2 2 [x.toNat, y.toNat] rfl (fun i hi => by
    rcases (by omega : i = 0 ∨ i = 1) with rfl | rfl
    · exact hB.cell 0
    · exact hB.cell 1) 9 Try.underlying9
  rw [h]
  simp [strOfNums]
set_option maxRecDepth 100000 in
set_option maxHeartbeats 4000000 in
theorem tag_any (x : El) (w : World) :
    Calls Try.prog 34 #[elV x] w fun e w' => e = .returned (.string ⟨(tagS x).toArray⟩) ∧ Below w.heap.size w w' := by
  have H1 := Lib.hid (fun (cl nu : Nat) (h1 : cl ≤ 3) (h2 : nu ≤ 30) v => identifier_ok h1 h2 x.con v)
  have H2 := Lib.hid (fun (h : x.cls < 0 ∨ 3 < x.cls ∨ x.num < 0 ∨ 30 < x.num) v => identifier_bad h x.con v)
  have HT1 := Lib.hid (fun (h : tagOk x) => (show tagS x = [hexB ((idByte x.cls.toNat x.num.toNat x.con).toNat / 16), hexB ((idByte x.cls.toNat x.num.toNat x.con).toNat % 16)] from if_pos h))
  have HT2 := Lib.hid (fun (h : ¬ tagOk x) => (show tagS x = [63, 63] from if_neg h))
  obtain ⟨s, hs⟩ : ∃ s, tagS x = s := ⟨_, rfl⟩
  rw [hs] at HT1 HT2
  rw [hs]
  clear hs
  unfold tagOk at HT1 HT2
  obtain ⟨xc, xn, xk, xs, xb, xe⟩ := x
  dsimp only at H1 H2 HT1 HT2
  unfold elV
  dsimp only
  obtain ⟨H, hH⟩ : ∃ H, w.heap.size = H := ⟨_, rfl⟩
  have T2 : Hid (Blk (w.alloc (.cells #[.int .i64 xc, .int .i64 xn, .bool xk, .int .i64 xs, .int .i64 xb, .int .i64 xe] 25)) H 25 #[.int .i64 xc, .int .i64 xn, .bool xk, .int .i64 xs, .int .i64 xb, .int .i64 xe]) := by
    rw [← hH]
    exact Blk.new w 25 #[.int .i64 xc, .int .i64 xn, .bool xk, .int .i64 xs, .int .i64 xb, .int .i64 xe]
  have Q2 := Lib.hid (bal (Below.refl w.heap.size w) (.cells #[.int .i64 xc, .int .i64 xn, .bool xk, .int .i64 xs, .int .i64 xb, .int .i64 xe] 25))
  rw [hH] at Q2 ⊢
  have hsz : H + 1 = (w.alloc (.cells #[.int .i64 xc, .int .i64 xn, .bool xk, .int .i64 xs, .int .i64 xb, .int .i64 xe] 25)).heap.size := by rw [← hH]; simp
  obtain ⟨t0, t1, t2, t3, t4, t5⟩ := T2.out.cellsE
  by_cases hok : 0 ≤ xc ∧ xc ≤ 3 ∧ 0 ≤ xn ∧ xn ≤ 30
  · have HS := Lib.hid (HT1.out hok)
    obtain ⟨h1, h2, h3, h4⟩ := hok
    obtain ⟨cl, rfl⟩ : ∃ cl : Nat, xc = cl := ⟨xc.toNat, by omega⟩
    obtain ⟨nu, rfl⟩ : ∃ nu : Nat, xn = nu := ⟨xn.toNat, by omega⟩
    have HI := Lib.hid (H1.out cl nu (by omega) (by omega))
    rw [Int.toNat_natCast, Int.toNat_natCast] at HS
    clear HT1 HT2 H1 H2 h1 h2 h3 h4
    generalize idByte cl nu xk = y at *
    go_enter Try.func34, Try.ntmps34
    go_wp2_with fail
    generalize w.alloc (.cells #[.int .i64 cl, .int .i64 nu, .bool xk, .int .i64 xs, .int .i64 xb, .int .i64 xe] 25) = w2 at *
    with_reducible refine (HI.out _).mono ?_
    rintro e w' ⟨rfl, rfl⟩
    clear t0 t1 t2 t3 t4 t5
    have hy := byte_bd y
    obtain ⟨k1, hk1⟩ : ∃ k1, y.toNat / 16 = k1 := ⟨_, rfl⟩
    obtain ⟨k2, hk2⟩ : ∃ k2, y.toNat % 16 = k2 := ⟨_, rfl⟩
    have g1 : (y.toNat : Int) / 16 = k1 := by omega
    have g2 := and15 y
    rw [hk2] at g2
    rw [hk1, hk2] at HS
    obtain ⟨z1, e1⟩ := hex_at (k := k1) (by omega)
    obtain ⟨z2, e2⟩ := hex_at (k := k2) (by omega)
    unfold hexS at z1 e1 z2 e2
    have b1 : (k1 : Int) < 16 := by omega
    have b2 : (k2 : Int) < 16 := by omega
    have b3 : (0 : Int) ≤ k1 := by omega
    have b4 : (0 : Int) ≤ k2 := by omega
    have hcv := conv_two w2 (hexB k1) (hexB k2) 5
    clear hk1 hk2
    have QF := Lib.hid ((Q2.out.alloc (by omega) (.cells #[.int .u8 (hexB k1).toNat, .int .u8 (hexB k2).toNat] 5)).drew)
    go_wp2_with fail
    go_region
    all_goals
      try go_wp2_with fail
      go_ret
      exact ⟨by rw [HS.out]; rfl, QF.out⟩
  · have HS := Lib.hid (HT2.out hok)
    have HI := Lib.hid (H2.out (by omega))
    clear HT1 HT2 H1 H2 hok
    go_enter Try.func34, Try.ntmps34
    go_wp2_with fail
    generalize w.alloc (.cells #[.int .i64 xc, .int .i64 xn, .bool xk, .int .i64 xs, .int .i64 xb, .int .i64 xe] 25) = w2 at *
    with_reducible refine (HI.out _).mono ?_
    rintro e w' ⟨rfl, rfl⟩
    clear t0 t1 t2 t3 t4 t5
    go_wp2_with fail
    go_ret
    exact ⟨by rw [HS.out]; rfl, Q2.out⟩
end Go.Proofs.Ytkkomaohcijhnaa
namespace Go.Proofs.Ytkkomaohcijhnaa
open Go.RowKit
def OwnV (w : World) (B : Nat) (e : TypeId) (a : Option Addr) (n c : Nat) (vs : List Value) : Prop := vs.length = n ∧ w.ownsRow B e 1 (.slice a n c) n vs
theorem OwnV.nil_ (w : World) (B : Nat) (e : TypeId) : OwnV w B e none 0 0 [] := ⟨rfl, World.ownsRow_nil _ _ _ _⟩
theorem OwnV.base {w : World} {B : Nat} {e : TypeId} {a : Option Addr} {n c : Nat} {vs : List Value} (h : OwnV w B e a n c vs) : ∀ x, a = some x → B ≤ x.block ∧ x.block < w.heap.size := by
  intro x hx
  subst hx
  have hlt := h.2.lt
  rcases h.2.2 with ⟨hv, _⟩ | ⟨g, cap, cur, hv, hB, _⟩
  · cases hv
  · injection hv with e1 e2 e3
    injection e1 with e1
    subst e1
    exact hlt g rfl
theorem OwnV.keep {w w' : World} {B : Nat} {e : TypeId} {a : Option Addr} {n c : Nat} {vs : List Value} (h : OwnV w B e a n c vs) (hk : ∀ x, a = some x → w'.heap[x.block]? = w.heap[x.block]?) : OwnV w' B e a n c vs := by
  obtain ⟨hl, h1, h2⟩ := h
  refine ⟨hl, h1, ?_⟩
  rcases h2 with h2 | ⟨g, cap, cur, hv, hB, hh, r⟩
  · exact .inl h2
  · refine .inr ⟨g, cap, cur, hv, hB, ?_, r⟩
    injection hv with e1 e2 e3
    rw [hk _ e1]
    exact hh
theorem OwnV.below {w w' : World} {B : Nat} {e : TypeId} {a : Option Addr} {n c : Nat} {vs : List Value} (h : OwnV w B e a n c vs) (hb : Below w.heap.size w w') : OwnV w' B e a n c vs :=
  h.keep fun x hx => hb.block _ (h.base x hx).2
theorem OwnV.alloc {w : World} {B : Nat} {e : TypeId} {a : Option Addr} {n c : Nat} {vs : List Value} (h : OwnV w B e a n c vs) (o : Obj) : OwnV (w.alloc o) B e a n c vs := h.below (bal (Below.refl _ _) _)
theorem OwnV.drewN {w : World} {B : Nat} {e : TypeId} {a : Option Addr} {n c : Nat} {vs : List Value} (h : OwnV w B e a n c vs) (k : Nat) : OwnV (w.drewN k) B e a n c vs := h
theorem OwnV.more {w : World} {B B' : Nat} {e : TypeId} {a : Option Addr} {n c : Nat} {vs : List Value} (h : OwnV w B e a n c vs) (hB : B' ≤ B) : OwnV w B' e a n c vs := by
  obtain ⟨hl, h1, h2⟩ := h
  refine ⟨hl, h1, ?_⟩
  rcases h2 with h2 | ⟨g, cap, cur, hv, hB2, r⟩
  · exact .inl h2
  · exact .inr ⟨g, cap, cur, hv, Nat.le_trans hB hB2, r⟩
theorem OwnV.cell {w : World} {B : Nat} {e : TypeId} {g n c : Nat} {vs : List Value} (h : OwnV w B e (some ⟨g, 0, none⟩) n c vs) {j : Nat} (hj : j < vs.length) : w.cell? ⟨g, j, none⟩ = some vs[j] := by
  rw [World.ownsRow.cellAt h.2 j (by have := h.1; omega)]
  exact List.getElem?_eq_getElem hj
theorem OwnV.frozen {w : World} {B : Nat} {e : TypeId} {g n c : Nat} {vs : List Value} (h : OwnV w B e (some ⟨g, 0, none⟩) n c vs) (j : Nat) : w.frozen? ⟨g, j, none⟩ = false := World.ownsRow.frozenAt h.2 j
theorem OwnV.stored {w : World} {B : Nat} {e : TypeId} {g n c : Nat} {vs : List Value} (h : OwnV w B e (some ⟨g, 0, none⟩) n c vs) (j : Nat) (u : Value) : OwnV (w.setCell ⟨g, j, none⟩ u) B e (some ⟨g, 0, none⟩) n c (vs.set j u) :=
  ⟨by rw [List.length_set]; exact h.1, (World.ownsRow.stored h.2 j u).1⟩
theorem OwnV.cap {w : World} {B : Nat} {e : TypeId} {a : Option Addr} {n c : Nat} {vs : List Value} (h : OwnV w B e a n c vs) : n ≤ c ∧ c ≤ maxLen := by
  obtain ⟨hl, h1, h2⟩ := h
  rcases h2 with ⟨hv, h0⟩ | ⟨g, cap, cur, hv, hB, hh, hnc, hm, hs, ht⟩
  · injection hv with e1 e2 e3
    subst e2; subst e3
    exact ⟨Nat.le_refl _, by simp [maxLen]⟩
  · injection hv with e1 e2 e3
    subst e3
    exact ⟨hnc, hm⟩
theorem OwnV.form {w : World} {B : Nat} {e : TypeId} {v : Value} {n : Nat} {vs : List Value} (h : w.ownsRow B e 1 v n vs) (hl : vs.length = n) : ∃ a c, v = .slice a n c ∧ OwnV w B e a n c vs := by
  rcases h.2 with ⟨hv, h0⟩ | ⟨g, cap, cur, hv, _⟩
  · subst h0
    exact ⟨none, 0, hv, hl, by rw [← hv]; exact h⟩
  · exact ⟨_, _, hv, hl, by rw [← hv]; exact h⟩
theorem made_vals (z : Value) (hz : z.cells = #[z]) (n : Nat) : (madeCells z.cells (n * 1)).toList = List.replicate n z := by
  apply List.ext_getElem
  · simp [madeCells]
  · intro i h1 h2
    simp [madeCells, hz]
    rw [show i % 1 = 0 from Nat.mod_one i]
    rfl
end Go.Proofs.Ytkkomaohcijhnaa
