/-
  The walk of the law CursorCopies.
-/
import Derived.Test.YtkjfblhaondnnaaAwake
import Derived.Test.YtkjfblhaondnnaaAppend
import Derived.Test.YtkjfblhaondnnaaCurNil
namespace Go.Proofs.Ytkjfblhaondnnaa.cursorCopies
open Go.RowKit

/-- bytes of the call's own, which are written, and a cursor that they do not touch -/
def Rel (w : World) (B g : Nat) (ac : Option Addr) (l0 : List UInt8) (pos : Nat) (a : Option Addr) (n c : Nat) (wr : World) : Prop :=
  ∃ l, Own wr B 5 a n c l ∧ Cur wr 55 g ac l0 pos ∧ Below w.heap.size w wr

theorem cur_own {w : World} {t : TypeId} {g : Nat} {a : Option Addr} {l : List UInt8} {pos : Nat} {p : Addr} (hc : Cur w t g a l pos) (hg : g ≠ p.block) (ha : ∀ x, a = some x → x.block ≠ p.block) (u : Value) : Cur (w.setCell p u) t g a l pos :=
  hc.only (k := p.block) (only_setCell (only_refl _ _) (.inl rfl) u) hg ha

theorem rel_set {w wr : World} {B g gb : Nat} {ac : Option Addr} {l0 l : List UInt8} {pos n c : Nat} (O : Own wr B 5 (some ⟨gb, 0, none⟩) n c l) (C : Cur wr 55 g ac l0 pos) (W : Below w.heap.size w wr)
    (hB : w.heap.size ≤ gb) (N1 : g ≠ gb) (N2 : ∀ y, ac = some y → y.block ≠ gb) (k : Nat) (y : UInt8) : Rel w B g ac l0 pos (some ⟨gb, 0, none⟩) n c (wr.setCell ⟨gb, k, none⟩ (.int .u8 y.toNat)) :=
  ⟨_, O.stored k y, cur_own C N1 N2 _, W.setCell hB _⟩

set_option maxRecDepth 100000 in
set_option maxHeartbeats 2000000 in
theorem walk {w : World} {a0 : Option Addr} {n0 c0 : Nat} {l0 : List UInt8} {v : Int} (b0 : Bs w a0 n0 c0 l0) (wv : (Lit.int .u8 v).wf = true) :
    Calls Try.prog 5 #[.slice a0 n0 c0, .int .u8 v] w fun e w' => e = .returned (.bool true) ∧ Below w.heap.size w w' := by
  have hv := bounds_u8 wv
  obtain ⟨m, rfl⟩ : ∃ m : Nat, v = m := ⟨v.toNat, by omega⟩
  clear wv
  have HA := Lib.hid (awake_any)
  have HB0 := Lib.hid b0
  clear b0
  by_cases h0 : n0 ≤ 2000
  · obtain ⟨i0, hi, hz0, hz1, hz2⟩ := info_parts info_u8
    go_enter Try.func5, Try.ntmps5
    go_wp2_with (first | (go_at_call 8; go_must (refine (HA.out _).mono ?_); rintro e w1 ⟨rfl, q1⟩) | (at_builtin; go_must (refine wpList_app _ rfl _ _ 22 rfl w1.heap.size 5 i0 Try.underlying22 hi hz0 hz1 hz2 (some ⟨w1.heap.size, 0, none⟩) 0 0 [] rfl (own_made w1 _) a0 n0 c0 l0 rfl ((HB0.out.below q1).alloc _) ?c1 ?c2 ?_)))
    case c1 => omega
    case c2 => simp
    intro a2 c2 w2 ho2 hg2
    have q2 := Lib.hid ((bal q1 (Obj.cells #[] 5)).trans (app_below (own_made w1 _) hg2 q1.size (by have := q1.size; simp; omega)))
    have O2 := Lib.hid ho2
    have S2 : Hid (w.heap.size ≤ w1.heap.size) := q1.size
    clear q1 ho2 hg2
    go_wp2_with fail
    refine (new_any O2.out.bs (by omega)).mono ?_
    rintro e w3 ⟨g, ac, rfl, hc3, hg, hac, q3⟩
    have O3 := Lib.hid (O2.out.below q3)
    have C3 := Lib.hid hc3
    have q3' := Lib.hid (bthen q2.out q3)
    have N1 : Hid (∀ x, a2 = some x → x.block < g) := fun x hx => Nat.lt_of_lt_of_le (O2.out.base x hx).2 hg
    have N2 : Hid (∀ x y, a2 = some x → ac = some y → y.block ≠ x.block) := fun x y hx hy => by have := (O2.out.base x hx).2; have := (hac y hy).1; omega
    have hgw : Hid (w.heap.size ≤ g) := Nat.le_trans q2.out.size hg
    have hacw : Hid (∀ x, ac = some x → w.heap.size ≤ x.block) := fun x hx => Nat.le_trans q2.out.size (hac x hx).1
    have hacg : Hid (∀ x, ac = some x → x.block < g) := fun x hx => (hac x hx).2
    clear hc3 hg hac q3 q2 O2
    go_wp2_with fail
    go_loopw [7] (fun i wr => ∃ k : Nat, k ≤ n0 ∧ i = .int .i64 k ∧ Rel w w1.heap.size g ac l0 0 a2 n0 c2 wr) (fun i _ => n0 - (intOf i).toNat)
    case atStart => exact ⟨0, Nat.zero_le _, rfl, l0, O3.out, C3.out, q3'.out⟩
    case round =>
      obtain ⟨k, hk, rfl, l, ho, hc, hw⟩ := hrel
      have O := Lib.hid ho
      have C := Lib.hid hc
      have W := Lib.hid hw
      clear ho hc hw
      by_cases hlt : k < n0
      · obtain ⟨gb, rfl, hgb, hgb2⟩ := O.out.pos (by omega)
        have hl := O.out.bs.len
        have hc := O.out.cell (j := k) (by omega)
        have hf := O.out.frozen k
        obtain ⟨x, ex⟩ : ∃ x, l[k]'(by omega) = x := ⟨_, rfl⟩
        rw [ex] at hc
        clear ex hl
        go_wp2
        rw [inc_byte x]
        refine ⟨⟨k + 1, by omega, by go_num, rel_set O.out C.out W.out (by have := S2.out; omega) (by have := N1.out _ rfl; simp at this; omega) (fun y hy => N2.out _ y rfl hy) k _⟩, by simp [intOf]; omega⟩
      · clear O3 C3 q3' O N1 N2
        go_wp2_with fail
        clear hk hlt
        refine (rest_any C.out).mono ?_
        rintro e w4 ⟨a4, c4, rfl, ho4, q4⟩
        have O4 := Lib.hid ho4
        have C4 := Lib.hid (C.out.below q4)
        have W4 := Lib.hid (bthen W.out q4)
        have S4 : Hid (w.heap.size ≤ wr.heap.size) := W.out.size
        have G4 : Hid (g < wr.heap.size) := C.out.lt
        clear ho4 q4 C W
        obtain ⟨n4, en⟩ : ∃ n4, l0.length - 0 = n4 := ⟨_, rfl⟩
        rw [en] at O4 ⊢
        have hn4 : n4 ≤ 2000 := by have := HB0.out.len; omega
        clear en
        go_wp2_with fail
        go_loopw [9] (fun i wr' => ∃ k : Nat, k ≤ n4 ∧ i = .int .i64 k ∧ Rel w wr.heap.size g ac l0 0 a4 n4 c4 wr') (fun i _ => n4 - (intOf i).toNat)
        case atStart => exact ⟨0, Nat.zero_le _, rfl, _, O4.out, C4.out, W4.out⟩
        case round =>
          obtain ⟨k2, hk, rfl, l, ho, hc, hw⟩ := hrel
          have O := Lib.hid ho
          have C := Lib.hid hc
          have W := Lib.hid hw
          clear ho hc hw
          by_cases hlt : k2 < n4
          · obtain ⟨gb, rfl, hgb, hgb2⟩ := O.out.pos (by omega)
            have hl := O.out.bs.len
            have hc := O.out.cell (j := k2) (by omega)
            have hf := O.out.frozen k2
            obtain ⟨x, ex⟩ : ∃ x, l[k2]'(by omega) = x := ⟨_, rfl⟩
            rw [ex] at hc
            clear ex hl
            go_wp2
            rw [show (Value.int IntKind.u8 0) = Value.int .u8 ((0 : UInt8).toNat) from rfl]
            refine ⟨⟨k2 + 1, by omega, by go_num, rel_set O.out C.out W.out (by have := S4.out; omega) (by have := G4.out; omega) (fun y hy => by have := hacg.out y hy; have := G4.out; omega) k2 _⟩, by simp [intOf]; omega⟩
          · go_wp2_with fail
            have GB : Hid (g < wr.heap.size) := C.out.lt
            have BW : Hid (w.heap.size ≤ wr.heap.size) := W.out.size
            clear hk hlt O
            obtain ⟨B5, hB5⟩ : ∃ B5, wr.heap.size = B5 := ⟨_, rfl⟩
            rw [hB5] at GB BW
            by_cases hm : 0 + m ≤ l0.length
            · refine (take_more_any C.out hm).mono ?_
              rintro e w5 ⟨a5, c5, rfl, ho5, hc5, hk5⟩
              rw [hB5] at ho5
              have O5 := Lib.hid ho5
              have C5 := Lib.hid hc5
              have W5 := Lib.hid (below_only W.out hk5 W.out.size hgw.out)
              clear ho5 hc5 hk5 C W hB5
              have N3 : Hid (∀ x, a5 = some x → x.block < w5.heap.size) := fun x hx => (O5.out.base x hx).2
              have G5 : Hid (g < w5.heap.size) := C5.out.lt
              have E5 := Lib.hid (Blk.new w5 33 #[.int .i64 0, .int .i64 0])
              have O6 := Lib.hid (O5.out.below ((Below.refl _ _).alloc (Nat.le_refl _) (Obj.cells #[.int .i64 0, .int .i64 0] 33)))
              have C6 := Lib.hid (C5.out.below ((Below.refl _ _).alloc (Nat.le_refl _) (Obj.cells #[.int .i64 0, .int .i64 0] 33)))
              have W6 := Lib.hid (bal W5.out (Obj.cells #[.int .i64 0, .int .i64 0] 33))
              clear O5 C5
              obtain ⟨E, hE⟩ : ∃ E, w5.heap.size = E := ⟨_, rfl⟩
              rw [hE] at N3 G5 E5
              have hE' := Lib.hid hE
              clear hE
              go_wp2_with fail
              rw [hE'.out]
              go_loopw [12] (fun i wr' => ∃ k : Nat, k ≤ m ∧ i = .int .i64 k ∧ Rel w B5 g ac l0 (0 + m) a5 m c5 wr' ∧ Blk wr' E 33 #[.int .i64 0, .int .i64 0]) (fun i _ => m - (intOf i).toNat)
              case atStart => exact ⟨0, Nat.zero_le _, rfl, ⟨_, O6.out, C6.out, W6.out⟩, E5.out⟩
              case round =>
                obtain ⟨k3, hk, rfl, ⟨l, ho, hc, hw⟩, he⟩ := hrel
                have O := Lib.hid ho
                have C := Lib.hid hc
                have W := Lib.hid hw
                have HE := Lib.hid he
                clear ho hc hw he
                by_cases hlt : k3 < m
                · obtain ⟨gb, egb, hgb, hgb2⟩ := O.out.pos (by omega)
                  have hn3 := N3.out _ egb
                  subst egb
                  have hl := O.out.bs.len
                  have hc := O.out.cell (j := k3) (by omega)
                  have hf := O.out.frozen k3
                  obtain ⟨x, ex⟩ : ∃ x, l[k3]'(by omega) = x := ⟨_, rfl⟩
                  rw [ex] at hc
                  clear ex hl
                  go_wp2
                  rw [inc_byte x]
                  refine ⟨⟨k3 + 1, by omega, by go_num, rel_set O.out C.out W.out (by have := BW.out; omega) (by have := GB.out; omega) (fun y hy => by have := hacg.out y hy; have := GB.out; omega) k3 _, HE.out.far (by simp at hn3; simp; omega) _⟩, by simp [intOf]; omega⟩
                · go_wp2_with fail
                  clear hk hlt O N3
                  refine (seek_ok (m := 0) C.out (Nat.zero_le _)).mono ?_
                  rintro e w6 ⟨rfl, hc6, hk6⟩
                  have W7 := Lib.hid (bal (below_only W.out hk6 W.out.size hgw.out) (Obj.cells #[.int .i64 0, .int .i64 0] 33))
                  have E7 := Lib.hid ((HE.out.only hk6 (by have := G5.out; omega)).alloc (Obj.cells #[.int .i64 0, .int .i64 0] 33))
                  have F7 := Lib.hid (Blk.new w6 33 #[.int .i64 0, .int .i64 0])
                  have C7 := Lib.hid (hc6.below ((Below.refl _ _).alloc (Nat.le_refl _) (Obj.cells #[.int .i64 0, .int .i64 0] 33)))
                  clear C W HE hc6 hk6
                  obtain ⟨F, hF⟩ : ∃ F, Hid (w6.heap.size = F) := ⟨_, rfl⟩
                  rw [hF.out] at F7
                  go_wp2_with fail
                  rw [hF.out]
                  refine (byte_nil _).mono ?_
                  rintro e w7 ⟨rfl, q⟩
                  have W8 := Lib.hid (bal (bthen W7.out q) (Obj.cells #[.int .i64 1, .int .i64 0] 33))
                  have E8 := Lib.hid ((E7.out.below q E7.out.lt).alloc (Obj.cells #[.int .i64 1, .int .i64 0] 33))
                  have F8 := Lib.hid ((F7.out.below q F7.out.lt).alloc (Obj.cells #[.int .i64 1, .int .i64 0] 33))
                  have C8 := Lib.hid ((C7.out.below q).below ((Below.refl _ _).alloc (Nat.le_refl _) (Obj.cells #[.int .i64 1, .int .i64 0] 33)))
                  have G8 := Lib.hid (Blk.new w7 33 #[.int .i64 1, .int .i64 0])
                  clear W7 E7 F7 C7 q
                  go_wp2_with fail
                  refine (take_nil _).mono ?_
                  rintro e w8 ⟨rfl, q⟩
                  have W9 := Lib.hid (bal (bthen W8.out q) (Obj.cells #[.int .i64 9, .int .i64 0] 33))
                  have E9 := Lib.hid ((E8.out.below q E8.out.lt).alloc (Obj.cells #[.int .i64 9, .int .i64 0] 33))
                  have F9 := Lib.hid ((F8.out.below q F8.out.lt).alloc (Obj.cells #[.int .i64 9, .int .i64 0] 33))
                  have C9 := Lib.hid ((C8.out.below q).below ((Below.refl _ _).alloc (Nat.le_refl _) (Obj.cells #[.int .i64 9, .int .i64 0] 33)))
                  have G9 := G8.out.below q G8.out.lt
                  have g0 := G9.cell 0
                  have g1 := G9.cell 1
                  have gl : w7.heap.size < w8.heap.size := G9.lt
                  simp only [List.getElem?_toArray, List.getElem?_cons_zero, List.getElem?_cons_succ] at g0 g1
                  clear W8 E8 F8 C8 G8 G9 q
                  go_wp2_with fail
                  refine (seek_nil0 _).mono ?_
                  rintro e w9 ⟨rfl, q9⟩
                  clear g0 g1 gl
                  go_wp2_with fail
                  refine (seek_nil1 _).mono ?_
                  rintro e w10 ⟨rfl, q10⟩
                  have q := Lib.hid (bthen q9 q10)
                  clear q9 q10
                  go_wp2_with fail
                  refine (pos_nil _).mono ?_
                  rintro e w11 ⟨rfl, q11⟩
                  have q' := Lib.hid (bthen q.out q11)
                  clear q11 q
                  go_wp2_with fail
                  refine (left_nil _).mono ?_
                  rintro e w12 ⟨rfl, q12⟩
                  have q := Lib.hid (bthen q'.out q12)
                  clear q12 q'
                  go_wp2_with fail
                  refine (rest_nil _).mono ?_
                  rintro e w13 ⟨a13, c13, rfl, q13⟩
                  have q' := bthen q.out q13
                  have W13 := Lib.hid (bthen W9.out q')
                  have C13 := Lib.hid (C9.out.below q')
                  have E13 := E9.out.below q' E9.out.lt
                  have F13 := F9.out.below q' F9.out.lt
                  have e0 := E13.cell 0
                  have f0 := F13.cell 0
                  have f1 := F13.cell 1
                  simp only [List.getElem?_toArray, List.getElem?_cons_zero, List.getElem?_cons_succ] at e0 f0 f1
                  clear q13 q q' W9 C9 E9 F9 E13 F13
                  have hfact : (m : Int) ≤ n0 := by have := HB0.out.len; omega
                  go_wp2_with fail
                  refine (rest_any C13.out).mono ?_
                  rintro e w14 ⟨a14, c14, rfl, ho14, q14⟩
                  have W14 := Lib.hid (bthen W13.out q14)
                  have X14 := Lib.hid ho14.bs
                  clear ho14 q14 W13 C13 e0 f0 f1
                  go_wp2_with fail
                  refine (bytes_any X14.out (HB0.out.below W14.out)).mono ?_
                  rintro e w15 ⟨rfl, rfl⟩
                  rw [List.drop_zero, eqB_self]
                  go_wp2_with fail
                  go_ret
                  exact ⟨rfl, W14.out⟩
            · refine (take_short C.out (by omega)).mono ?_
              rintro e w5 ⟨rfl, q5⟩
              have O5 : Hid (Own w5 B5 5 none 0 0 []) := World.ownsRow_nil _ _ _ _
              have C5 := Lib.hid (C.out.below q5)
              have W5 := Lib.hid (bthen W.out q5)
              clear q5 C W hB5
              have N3 : Hid (∀ x : Addr, none = some x → x.block < w5.heap.size) := fun x hx => (O5.out.base x hx).2
              have G5 : Hid (g < w5.heap.size) := C5.out.lt
              have E5 := Lib.hid (Blk.new w5 33 #[.int .i64 1, .int .i64 l0.length])
              have O6 := Lib.hid (O5.out.below ((Below.refl _ _).alloc (Nat.le_refl _) (Obj.cells #[.int .i64 1, .int .i64 l0.length] 33)))
              have C6 := Lib.hid (C5.out.below ((Below.refl _ _).alloc (Nat.le_refl _) (Obj.cells #[.int .i64 1, .int .i64 l0.length] 33)))
              have W6 := Lib.hid (bal W5.out (Obj.cells #[.int .i64 1, .int .i64 l0.length] 33))
              clear O5 C5
              obtain ⟨E, hE⟩ : ∃ E, w5.heap.size = E := ⟨_, rfl⟩
              rw [hE] at N3 G5 E5
              have hE' := Lib.hid hE
              clear hE
              go_wp2_with fail
              rw [hE'.out]
              go_loopw [12] (fun i wr' => ∃ k : Nat, k ≤ 0 ∧ i = .int .i64 k ∧ Rel w B5 g ac l0 0 none 0 0 wr' ∧ Blk wr' E 33 #[.int .i64 1, .int .i64 l0.length]) (fun i _ => 0 - (intOf i).toNat)
              case atStart => exact ⟨0, Nat.zero_le _, rfl, ⟨_, O6.out, C6.out, W6.out⟩, E5.out⟩
              case round =>
                obtain ⟨k3, hk, rfl, ⟨l, ho, hc, hw⟩, he⟩ := hrel
                have O := Lib.hid ho
                have C := Lib.hid hc
                have W := Lib.hid hw
                have HE := Lib.hid he
                clear ho hc hw he
                by_cases hlt : k3 < 0
                · obtain ⟨gb, egb, hgb, hgb2⟩ := O.out.pos (by omega)
                  have hn3 := N3.out _ egb
                  cases egb
                · go_wp2_with fail
                  clear hk hlt O N3
                  refine (seek_ok (m := 0) C.out (Nat.zero_le _)).mono ?_
                  rintro e w6 ⟨rfl, hc6, hk6⟩
                  have W7 := Lib.hid (bal (below_only W.out hk6 W.out.size hgw.out) (Obj.cells #[.int .i64 0, .int .i64 0] 33))
                  have E7 := Lib.hid ((HE.out.only hk6 (by have := G5.out; omega)).alloc (Obj.cells #[.int .i64 0, .int .i64 0] 33))
                  have F7 := Lib.hid (Blk.new w6 33 #[.int .i64 0, .int .i64 0])
                  have C7 := Lib.hid (hc6.below ((Below.refl _ _).alloc (Nat.le_refl _) (Obj.cells #[.int .i64 0, .int .i64 0] 33)))
                  clear C W HE hc6 hk6
                  obtain ⟨F, hF⟩ : ∃ F, Hid (w6.heap.size = F) := ⟨_, rfl⟩
                  rw [hF.out] at F7
                  go_wp2_with fail
                  rw [hF.out]
                  refine (byte_nil _).mono ?_
                  rintro e w7 ⟨rfl, q⟩
                  have W8 := Lib.hid (bal (bthen W7.out q) (Obj.cells #[.int .i64 1, .int .i64 0] 33))
                  have E8 := Lib.hid ((E7.out.below q E7.out.lt).alloc (Obj.cells #[.int .i64 1, .int .i64 0] 33))
                  have F8 := Lib.hid ((F7.out.below q F7.out.lt).alloc (Obj.cells #[.int .i64 1, .int .i64 0] 33))
                  have C8 := Lib.hid ((C7.out.below q).below ((Below.refl _ _).alloc (Nat.le_refl _) (Obj.cells #[.int .i64 1, .int .i64 0] 33)))
                  have G8 := Lib.hid (Blk.new w7 33 #[.int .i64 1, .int .i64 0])
                  clear W7 E7 F7 C7 q
                  go_wp2_with fail
                  refine (take_nil _).mono ?_
                  rintro e w8 ⟨rfl, q⟩
                  have W9 := Lib.hid (bal (bthen W8.out q) (Obj.cells #[.int .i64 9, .int .i64 0] 33))
                  have E9 := Lib.hid ((E8.out.below q E8.out.lt).alloc (Obj.cells #[.int .i64 9, .int .i64 0] 33))
                  have F9 := Lib.hid ((F8.out.below q F8.out.lt).alloc (Obj.cells #[.int .i64 9, .int .i64 0] 33))
                  have C9 := Lib.hid ((C8.out.below q).below ((Below.refl _ _).alloc (Nat.le_refl _) (Obj.cells #[.int .i64 9, .int .i64 0] 33)))
                  have G9 := G8.out.below q G8.out.lt
                  have g0 := G9.cell 0
                  have g1 := G9.cell 1
                  have gl : w7.heap.size < w8.heap.size := G9.lt
                  simp only [List.getElem?_toArray, List.getElem?_cons_zero, List.getElem?_cons_succ] at g0 g1
                  clear W8 E8 F8 C8 G8 G9 q
                  go_wp2_with fail
                  refine (seek_nil0 _).mono ?_
                  rintro e w9 ⟨rfl, q9⟩
                  clear g0 g1 gl
                  go_wp2_with fail
                  refine (seek_nil1 _).mono ?_
                  rintro e w10 ⟨rfl, q10⟩
                  have q := Lib.hid (bthen q9 q10)
                  clear q9 q10
                  go_wp2_with fail
                  refine (pos_nil _).mono ?_
                  rintro e w11 ⟨rfl, q11⟩
                  have q' := Lib.hid (bthen q.out q11)
                  clear q11 q
                  go_wp2_with fail
                  refine (left_nil _).mono ?_
                  rintro e w12 ⟨rfl, q12⟩
                  have q := Lib.hid (bthen q'.out q12)
                  clear q12 q'
                  go_wp2_with fail
                  refine (rest_nil _).mono ?_
                  rintro e w13 ⟨a13, c13, rfl, q13⟩
                  have q' := bthen q.out q13
                  have W13 := Lib.hid (bthen W9.out q')
                  have C13 := Lib.hid (C9.out.below q')
                  have E13 := E9.out.below q' E9.out.lt
                  have F13 := F9.out.below q' F9.out.lt
                  have e0 := E13.cell 0
                  have f0 := F13.cell 0
                  have f1 := F13.cell 1
                  simp only [List.getElem?_toArray, List.getElem?_cons_zero, List.getElem?_cons_succ] at e0 f0 f1
                  clear q13 q q' W9 C9 E9 F9 E13 F13
                  have hfact : ¬ m ≤ n0 := by have := HB0.out.len; omega
                  go_wp2_with fail
                  refine (rest_any C13.out).mono ?_
                  rintro e w14 ⟨a14, c14, rfl, ho14, q14⟩
                  have W14 := Lib.hid (bthen W13.out q14)
                  have X14 := Lib.hid ho14.bs
                  clear ho14 q14 W13 C13 e0 f0 f1
                  go_wp2_with fail
                  refine (bytes_any X14.out (HB0.out.below W14.out)).mono ?_
                  rintro e w15 ⟨rfl, rfl⟩
                  rw [List.drop_zero, eqB_self]
                  go_wp2_with fail
                  go_ret
                  exact ⟨rfl, W14.out⟩
  · go_enter Try.func5, Try.ntmps5
    go_wp2_with (first | (go_at_call 8; go_must (refine (HA.out _).mono ?_); rintro e w1 ⟨rfl, q1⟩) | fail)
    all_goals
      go_ret
      exact ⟨rfl, bthen (by assumption) (by assumption)⟩
end Go.Proofs.Ytkjfblhaondnnaa.cursorCopies
