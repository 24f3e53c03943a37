/-
  The walk of the law TreeCopies.
-/
import Derived.Test.YtgccjdhkpgmnoaaAwakeTree
import Derived.Test.YtgccjdhkpgmnoaaTreeParse2
namespace Go.Proofs.Ytgccjdhkpgmnoaa.treeCopies
open Go.RowKit

def zT : Tree := .node 0 0 false [] []
def tOf : RT → Tree
  | .ok t _ => t
  | .err _ _ => zT
def cOf : RT → Nat
  | .ok _ _ => 0
  | .err c _ => c
def oOf : RT → Nat
  | .ok _ _ => 0
  | .err _ o => o
theorem uni {w w' : World} {r : RT} {e : Ending} (h : ParsePost w r e w') : ∃ cs, e = .returned (.tuple #[.agg cs.toArray, .agg #[.int .i64 (cOf r), .int .i64 (oOf r)]]) ∧ NdCs w' (fun b => w.heap.size ≤ b) cs (tOf r) ∧ Below w.heap.size w w' := by
  cases r with
  | ok t s =>
    obtain ⟨cs, h1, h2, h3⟩ := h
    exact ⟨cs, h1, h2, h3⟩
  | err c o =>
    obtain ⟨h1, h2⟩ := h
    exact ⟨[.int .i64 0, .int .i64 0, .bool false, .slice none 0 0, .slice none 0 0], h1, ⟨none, 0, 0, none, 0, 0, rfl, BsR.nil_ _ _, Kds.nil_ _ _⟩, h2⟩
theorem tOf_ok {l : List UInt8} : (okT (tOf (parseT 16 l)) && decide (depT (tOf (parseT 16 l)) ≤ 16)) = true ∧ sizT (tOf (parseT 16 l)) ≤ l.length + 1 ∧ (encT (tOf (parseT 16 l))).length ≤ l.length + 2 := by
  rcases h : parseT 16 l with ⟨t, s⟩ | ⟨c, o⟩
  · obtain ⟨h1, h2, h3, _⟩ := parseT_ok h
    refine ⟨?_, ?_, ?_⟩
    · show (okT t && decide (depT t ≤ 16)) = true
      rw [h1, decide_eq_true h2]
      rfl
    · have h4 := rdT_lim 16 l
      unfold parseT at h
      rcases hq : rdT 16 l with ⟨t', s'⟩ | ⟨c', o'⟩
      · rw [hq] at h4 h
        simp only at h4 h
        split at h
        · cases h
        · injection h with e1 e2
          have h5 : sizT t' ≤ l.length := by omega
          rw [e1] at h5
          exact Nat.le_succ_of_le h5
      · rw [hq] at h
        cases h
    · show (encT t).length ≤ _
      rw [h3]
      omega
  · exact ⟨by kernel_rfl, by show 1 ≤ _; omega, by show 2 ≤ _; omega⟩

/-- an own slice is written, and nothing else but new blocks -/
def Rel (w : World) (B : Nat) (a : Option Addr) (n c : Nat) (wr : World) : Prop :=
  (∃ l, Own wr B 5 a n c l) ∧ w.grownBy wr (Value.ownBlock (.slice a n c))
theorem rel_set {w wr : World} {B g n c k : Nat} {l : List UInt8} (O : Own wr B 5 (some ⟨g, 0, none⟩) n c l) (G : w.grownBy wr (Value.ownBlock (.slice (some ⟨g, 0, none⟩) n c))) (y : UInt8) :
    Rel w B (some ⟨g, 0, none⟩) n c (wr.setCell ⟨g, k, none⟩ (.int .u8 y.toNat)) :=
  ⟨⟨_, O.stored k y⟩, only_setCell (g := g) (p := ⟨g, k, none⟩) G (.inl rfl) _⟩
theorem blk_other {w wr : World} {g t n c : Nat} {a : Option Addr} {cs : Array Value} (O : Blk w g t cs) (G : w.grownBy wr (Value.ownBlock (.slice a n c))) (h : ∀ y, a = some y → g ≠ y.block) : Blk wr g t cs :=
  O.keep (G.block g O.lt (fun e => by
    cases a with
    | none => simp [Value.ownBlock] at e
    | some y => simp [Value.ownBlock] at e; exact h y rfl e))
theorem below_other {w0 w wr : World} {B n c : Nat} {a : Option Addr} (Q : Below B w0 w) (G : w.grownBy wr (Value.ownBlock (.slice a n c))) (hB : B ≤ w.heap.size) (h : ∀ y, a = some y → B ≤ y.block) : Below B w0 wr :=
  Q.grown G hB (fun k hk => by
    cases a with
    | none => simp [Value.ownBlock] at hk
    | some y => simp [Value.ownBlock] at hk; have := h y rfl; omega)
theorem nd_other {w wr : World} {R : Nat → Prop} {n c : Nat} {a : Option Addr} {cs : List Value} {t : Tree} (O : NdCs w R cs t) (G : w.grownBy wr (Value.ownBlock (.slice a n c))) (h : ∀ y, a = some y → ∀ b, R b → b ≠ y.block) : NdCs wr R cs t :=
  O.only G fun b hb e => by
    cases a with
    | none => simp [Value.ownBlock] at e
    | some y => simp [Value.ownBlock] at e; exact h y rfl b hb e

set_option maxRecDepth 100000 in
set_option maxHeartbeats 4000000 in
theorem walk {w : World} {a0 : Option Addr} {n0 c0 : Nat} {l0 : List UInt8} (b0 : Bs w a0 n0 c0 l0) :
    Calls Try.prog 9 #[.slice a0 n0 c0] w fun e w' => e = .returned (.bool true) ∧ Below w.heap.size w w' := by
  have HA := Lib.hid (awakeTree_any)
  have HB0 := Lib.hid b0
  have hlen := b0.len
  have hcap := b0.2.1
  have hmx := b0.2.2.1
  unfold maxLen at hmx
  have hn9 : (n0 : Int) ≤ 9223372036854775807 := by omega
  by_cases h0 : n0 ≤ 1500
  · have h0i : (n0 : Int) ≤ 1500 := by omega
    have HP1 := Lib.hid (fun w a c (h : Bs w a n0 c l0) => (parse_any h (by omega)).mono fun e w' he => uni he)
    have HP2 := Lib.hid (fun W (h : Below w.heap.size w W) => (ref_parse_any (b0.below h) (by omega)).mono fun e w' he => uni he)
    obtain ⟨hv, hsz, hel⟩ := tOf_ok (l := l0)
    rw [hlen] at hsz hel
    generalize hT : tOf (parseT 16 l0) = T at *
    generalize hCe : cOf (parseT 16 l0) = C at *
    generalize hOe : oOf (parseT 16 l0) = O at *
    clear hT hCe hOe
    have HE := Lib.hid (fun (w : World) (R : Nat → Prop) (cs : List Value) (h : NdCs w R cs T) => encode_tree_good (by omega) hv h)
    have HN := Lib.hid (fun (w : World) (R R' : Nat → Prop) (cs cs' : List Value) (h : NdCs w R cs T) (h' : NdCs w R' cs' T) => node_any _ T T w R R' cs cs' (Nat.le_refl _) h h')
    rw [eqT_self] at HN
    obtain ⟨M, hM⟩ : ∃ M, Hid ((encT T).length = M) := ⟨_, rfl⟩
    rw [hM.out] at HE hel
    have hMb : (M : Int) ≤ 1502 := by omega
    obtain ⟨i0, hi, hz0, hz1, hz2⟩ := info_parts info_u8
    cases T with
    | node c' n' k' l' ks' =>
    clear b0 hlen hv hsz
    go_enter Try.func9, Try.ntmps9
    go_wp2_with fail
    refine (HA.out _).mono ?_
    rintro e w1 ⟨rfl, q1⟩
    have Q1 := Lib.hid q1
    clear q1 HA
    have hs1 := Q1.out.size
    go_wp2_with (at_builtin; go_must (refine wpList_app _ rfl _ _ 22 rfl w1.heap.size 5 i0 Try.underlying22 hi hz0 hz1 hz2 (some ⟨w1.heap.size, 0, none⟩) 0 0 [] rfl (own_made w1 _) a0 n0 c0 l0 rfl ((HB0.out.below Q1.out).alloc _) ?c1 ?c2 ?_))
    case c1 => omega
    case c2 => simp
    intro a2 c2 w2 ho2 hg2
    have D2 : Hid (Below w1.heap.size w1 w2) := (bal (Below.refl _ _) _).trans (app_below (own_made w1 _) hg2 (Nat.le_refl _) (by simp))
    have O2 := Lib.hid ho2
    have Q2 := Lib.hid (bthen Q1.out D2.out)
    have N2 : Hid (∀ x, a2 = some x → w.heap.size ≤ x.block ∧ x.block < w2.heap.size) := fun x hx => by have := ho2.base x hx; omega
    clear ho2 hg2 D2
    go_wp2_with fail
    refine (HP1.out _ _ _ O2.out.bs).mono ?_
    rintro e w3 ⟨cs, rfl, hnd, q⟩
    obtain ⟨a', m', d', ka', kn', kc', rfl, _⟩ := hnd.parts
    have hs23 := q.size
    have U := Lib.hid (bal (bal (Below.refl _ w3) (.cells #[.int .i64 c', .int .i64 n', .bool k', .slice a' m' d', .slice ka' kn' kc'] 26)) (.cells #[.int .i64 C, .int .i64 O] 29))
    have O3 := Lib.hid ((O2.out.below q).below U.out)
    have ND3 := Lib.hid (hnd.below U.out)
    have NB3 := Lib.hid ((Blk.new w3 26 #[.int .i64 c', .int .i64 n', .bool k', .slice a' m' d', .slice ka' kn' kc']).alloc (.cells #[.int .i64 C, .int .i64 O] 29))
    have E3 : Hid (Blk ((w3.alloc (.cells #[.int .i64 c', .int .i64 n', .bool k', .slice a' m' d', .slice ka' kn' kc'] 26)).alloc (.cells #[.int .i64 C, .int .i64 O] 29)) (w3.heap.size + 1) 29 #[.int .i64 C, .int .i64 O]) := by
      have := Blk.new (w3.alloc (.cells #[.int .i64 c', .int .i64 n', .bool k', .slice a' m' d', .slice ka' kn' kc'] 26)) 29 #[.int .i64 C, .int .i64 O]
      show Blk _ _ _ _
      simpa using this
    have Q3 := Lib.hid (bthen (bthen Q2.out q) U.out)
    have N3 : Hid (∀ y, a2 = some y → w3.heap.size ≠ y.block ∧ w3.heap.size + 1 ≠ y.block ∧ ∀ b, w2.heap.size ≤ b → b ≠ y.block) := fun y hy => by
      have := (N2.out y hy).2
      exact ⟨by omega, by omega, fun b hb => by omega⟩
    clear q hs23 HP1 O2 Q2 hnd U
    go_wp2_with fail
    refine (bytes_any O3.out.bs (HB0.out.below Q3.out)).mono ?_
    rintro e w4 ⟨rfl, rfl⟩
    rw [eqB_self]
    generalize ((w3.alloc (.cells #[.int .i64 c', .int .i64 n', .bool k', .slice a' m' d', .slice ka' kn' kc'] 26)).alloc (.cells #[.int .i64 C, .int .i64 O] 29)) = W3 at *
    have hsW := Q3.out.size
    go_wp2_with fail
    obtain ⟨EE, hEE⟩ : ∃ EE, Hid (w3.heap.size + 1 = EE) := ⟨_, rfl⟩
    obtain ⟨NN, hNN⟩ : ∃ NN, Hid (w3.heap.size = NN) := ⟨_, rfl⟩
    rw [hEE.out, hNN.out] at N3
    rw [hEE.out] at E3 ⊢
    rw [hNN.out] at NB3 ⊢
    go_loopw [6] (fun i wr => ∃ k : Nat, k ≤ n0 ∧ i = .int .i64 k ∧ Rel W3 w1.heap.size a2 n0 c2 wr) (fun i _ => n0 - (intOf i).toNat)
    case atStart => exact ⟨0, Nat.zero_le _, rfl, ⟨_, O3.out⟩, only_refl _ _⟩
    case round =>
      obtain ⟨k, hk, rfl, ⟨l, ho⟩, hg⟩ := hrel
      have OO := Lib.hid ho
      have G := Lib.hid hg
      clear ho hg
      by_cases hlt : k < n0
      · obtain ⟨gb, rfl, hgb, hgb2⟩ := OO.out.pos (by omega)
        have hl := OO.out.bs.len
        have hc := OO.out.cell (j := k) (by omega)
        have hf := OO.out.frozen k
        obtain ⟨x, ex⟩ : ∃ x, l[k]'(by omega) = x := ⟨_, rfl⟩
        rw [ex] at hc
        clear ex hl
        go_wp2
        rw [inc_byte x]
        refine ⟨⟨k + 1, by omega, by go_num, rel_set OO.out G.out _⟩, by simp [intOf]; omega⟩
      · have NB4 := Lib.hid (blk_other NB3.out G.out fun y hy => (N3.out y hy).1)
        have E4 := Lib.hid (blk_other E3.out G.out fun y hy => (N3.out y hy).2.1)
        have ND4 := Lib.hid (nd_other ND3.out G.out fun y hy => (N3.out y hy).2.2)
        have Q4 := Lib.hid (below_other Q3.out G.out hsW (fun y hy => (N2.out y hy).1))
        clear NB3 E3 ND3 Q3 O3 OO G hsW hk
        go_wp2_with fail
        refine (HP2.out _ Q4.out).mono ?_
        rintro e w5 ⟨cs5, rfl, hnd5, q⟩
        obtain ⟨a5, m5, d5, ka5, kn5, kc5, rfl, _⟩ := hnd5.parts
        have U := Lib.hid (bal (bal (Below.refl _ w5) (.cells #[.int .i64 c', .int .i64 n', .bool k', .slice a5 m5 d5, .slice ka5 kn5 kc5] 26)) (.cells #[.int .i64 C, .int .i64 O] 29))
        have NB5 := Lib.hid ((NB4.out.below q NB4.out.lt).below U.out (NB4.out.below q NB4.out.lt).lt)
        have E5 := Lib.hid ((E4.out.below q E4.out.lt).below U.out (E4.out.below q E4.out.lt).lt)
        have ND5 := Lib.hid ((ND4.out.below q).below U.out)
        have NX5 := Lib.hid (hnd5.below U.out)
        have XB5 := Lib.hid ((Blk.new w5 26 #[.int .i64 c', .int .i64 n', .bool k', .slice a5 m5 d5, .slice ka5 kn5 kc5]).alloc (.cells #[.int .i64 C, .int .i64 O] 29))
        have XE5 : Hid (Blk ((w5.alloc (.cells #[.int .i64 c', .int .i64 n', .bool k', .slice a5 m5 d5, .slice ka5 kn5 kc5] 26)).alloc (.cells #[.int .i64 C, .int .i64 O] 29)) (w5.heap.size + 1) 29 #[.int .i64 C, .int .i64 O]) := by
          have := Blk.new (w5.alloc (.cells #[.int .i64 c', .int .i64 n', .bool k', .slice a5 m5 d5, .slice ka5 kn5 kc5] 26)) 29 #[.int .i64 C, .int .i64 O]
          show Blk _ _ _ _
          simpa using this
        have Q5 := Lib.hid (bthen (bthen Q4.out q) U.out)
        obtain ⟨n0', n1', n2', n3', n4', nl⟩ := five (NB4.out.below q NB4.out.lt)
        clear q hnd5 NB4 E4 ND4 Q4 HP2 U
        have HEE := Lib.hid (HE.out _ _ _ ND5.out)
        go_wp2_with fail
        refine HEE.out.mono ?_
        rintro e w6 ⟨a6, c6, rfl, ho6, q⟩
        have hs56 := q.size
        have W5lt : Hid ((w5.heap.size : Nat) + 2 = ((w5.alloc (.cells #[.int .i64 c', .int .i64 n', .bool k', .slice a5 m5 d5, .slice ka5 kn5 kc5] 26)).alloc (.cells #[.int .i64 C, .int .i64 O] 29)).heap.size) := by show _ = _; simp
        generalize ((w5.alloc (.cells #[.int .i64 c', .int .i64 n', .bool k', .slice a5 m5 d5, .slice ka5 kn5 kc5] 26)).alloc (.cells #[.int .i64 C, .int .i64 O] 29)) = W5 at *
        have NB6 := Lib.hid (NB5.out.below q NB5.out.lt)
        have E6 := Lib.hid (E5.out.below q E5.out.lt)
        have ND6 := Lib.hid ((ND5.out.weak (R' := fun b => b < W5.heap.size) fun b hb _ => hb).below q)
        have NX6 := Lib.hid ((NX5.out.weak (R' := fun b => b < W5.heap.size) fun b hb _ => hb).below q)
        have XB6 := Lib.hid (XB5.out.below q XB5.out.lt)
        have XE6 := Lib.hid (XE5.out.below q XE5.out.lt)
        have O6 := Lib.hid ho6
        have Q6 := Lib.hid (bthen Q5.out q)
        have hbig : NN < W5.heap.size ∧ EE < W5.heap.size ∧ w5.heap.size < W5.heap.size ∧ w5.heap.size + 1 < W5.heap.size := ⟨NB5.out.lt, E5.out.lt, XB5.out.lt, XE5.out.lt⟩
        have hQ5 := Q5.out.size
        have N6 : Hid (∀ y, a6 = some y → (NN ≠ y.block ∧ EE ≠ y.block ∧ w5.heap.size ≠ y.block ∧ w5.heap.size + 1 ≠ y.block) ∧ (∀ b, b < W5.heap.size → b ≠ y.block) ∧ w.heap.size ≤ y.block) := fun y hy => by
          have := (ho6.base y hy).1
          exact ⟨⟨by omega, by omega, by omega, by omega⟩, fun b hb => by omega, by omega⟩
        clear q ho6 NB5 E5 ND5 NX5 XB5 XE5 Q5 HEE HE n0' n1' n2' n3' n4' nl hs56 W5lt hbig hQ5
        obtain ⟨n0', n1', n2', n3', n4', nl⟩ := five NB6.out
        obtain ⟨x0', x1', x2', x3', x4', xl⟩ := five XB6.out
        have e0 := E6.out.cell 0
        have e1 := E6.out.cell 1
        have el := E6.out.lt
        have f0 := XE6.out.cell 0
        have f1 := XE6.out.cell 1
        have fl := XE6.out.lt
        simp only [List.getElem?_toArray, List.getElem?_cons_zero, List.getElem?_cons_succ] at e0 e1 f0 f1
        have HNN := Lib.hid (HN.out _ _ _ _ _ ND6.out NX6.out)
        go_wp2_with fail
        refine HNN.out.mono ?_
        rintro e w7 ⟨rfl, q⟩
        have NB7 := Lib.hid (NB6.out.below q NB6.out.lt)
        have E7 := Lib.hid (E6.out.below q E6.out.lt)
        have ND7 := Lib.hid (ND6.out.below q)
        have NX7 := Lib.hid (NX6.out.below q)
        have XB7 := Lib.hid (XB6.out.below q XB6.out.lt)
        have O7 := Lib.hid (O6.out.below q)
        have Q7 := Lib.hid (bthen Q6.out q)
        have hs7 := Q7.out.size
        clear q NB6 E6 ND6 NX6 XB6 XE6 O6 Q6 HNN n0' n1' n2' n3' n4' nl x0' x1' x2' x3' x4' xl e0 e1 el f0 f1 fl
        go_wp2_with fail
        obtain ⟨XX, hXX⟩ : ∃ XX, Hid (w5.heap.size = XX) := ⟨_, rfl⟩
        rw [hXX.out] at XB7 N6 ⊢
        go_loopw [11] (fun i wr' => ∃ k : Nat, k ≤ M ∧ i = .int .i64 k ∧ Rel w7 W5.heap.size a6 M c6 wr') (fun i _ => M - (intOf i).toNat)
        case atStart => exact ⟨0, Nat.zero_le _, rfl, ⟨_, O7.out⟩, only_refl _ _⟩
        case round =>
          obtain ⟨k2, hk2, rfl, ⟨l2, ho⟩, hg⟩ := hrel
          have OO := Lib.hid ho
          have G := Lib.hid hg
          clear ho hg
          by_cases hlt2 : k2 < M
          · obtain ⟨gb, rfl, hgb, hgb2⟩ := OO.out.pos (by omega)
            have hl := OO.out.bs.len
            have hc := OO.out.cell (j := k2) (by omega)
            have hf := OO.out.frozen k2
            obtain ⟨x, ex⟩ : ∃ x, l2[k2]'(by omega) = x := ⟨_, rfl⟩
            rw [ex] at hc
            clear ex hl
            go_wp2
            rw [inc_byte x]
            refine ⟨⟨k2 + 1, by omega, by go_num, rel_set OO.out G.out _⟩, by simp [intOf]; omega⟩
          · have NB8 := Lib.hid (blk_other NB7.out G.out fun y hy => (N6.out y hy).1.1)
            have E8 := Lib.hid (blk_other E7.out G.out fun y hy => (N6.out y hy).1.2.1)
            have XB8 := Lib.hid (blk_other XB7.out G.out fun y hy => (N6.out y hy).1.2.2.1)
            have ND8 := Lib.hid (nd_other ND7.out G.out fun y hy => (N6.out y hy).2.1)
            have NX8 := Lib.hid (nd_other NX7.out G.out fun y hy => (N6.out y hy).2.1)
            have Q8 := Lib.hid (below_other Q7.out G.out hs7 (fun y hy => (N6.out y hy).2.2))
            clear NB7 E7 XB7 ND7 NX7 Q7 O7 OO G
            obtain ⟨n0', n1', n2', n3', n4', nl⟩ := five NB8.out
            obtain ⟨x0', x1', x2', x3', x4', xl⟩ := five XB8.out
            have e0 := E8.out.cell 0
            have e1 := E8.out.cell 1
            have el := E8.out.lt
            simp only [List.getElem?_toArray, List.getElem?_cons_zero, List.getElem?_cons_succ] at e0 e1
            by_cases hC : C = 0
            · subst hC
              have HNN := Lib.hid (HN.out _ _ _ _ _ ND8.out NX8.out)
              go_wp2_with fail
              refine HNN.out.mono ?_
              rintro e w9 ⟨rfl, q⟩
              have Q9 := Lib.hid (bthen Q8.out q)
              go_wp2_with fail
              go_ret
              exact ⟨rfl, Q9.out⟩
            · have hC1 : ((C : Int) == 0) = false := by simp; omega
              have hC2 : ((C : Int) != 0) = true := by simp; omega
              go_wp2_with fail
              go_ret
              exact ⟨rfl, Q8.out⟩
  · have h0i : (1500 : Int) < n0 := by omega
    clear b0 HB0 hlen
    go_enter Try.func9, Try.ntmps9
    go_wp2_with fail
    refine (HA.out _).mono ?_
    rintro e w1 ⟨rfl, q1⟩
    have Q1 := Lib.hid q1
    clear q1
    go_wp2_with fail
    refine (HA.out _).mono ?_
    rintro e w2 ⟨rfl, q2⟩
    go_wp2_with fail
    go_ret
    exact ⟨rfl, bthen Q1.out q2⟩
end Go.Proofs.Ytgccjdhkpgmnoaa.treeCopies
