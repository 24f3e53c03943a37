/-
  The walk of the law CursorRuns.
-/
import Derived.Test.YtkjfblhaondnnaaAwake
import Derived.Test.YtkjfblhaondnnaaRefTake
import Derived.Deep.RegionHeld3
namespace Go.Proofs.Ytkjfblhaondnnaa.cursorRuns
open Go.RowKit

/-- a slice of calls: a kind and a number each -/
def Ops (w : World) (a : Option Addr) (n : Nat) : Prop :=
  0 < n → ∃ b off, a = some ⟨b, off, none⟩ ∧ b < w.heap.size ∧ ∀ i, i < n → ∃ x z : Int, w.cell? ⟨b, off + i * 2, none⟩ = some (.int .u8 x) ∧ w.cell? ⟨b, off + i * 2 + 1, none⟩ = some (.int .i64 z)

/-- what holds at the head of each round -/
def Rel (w : World) (g h : Nat) (ag ah : Option Addr) (l : List UInt8) (pos : Nat) (wr : World) : Prop :=
  Cur wr 55 g ag l pos ∧ Cur wr 42 h ah l pos ∧ Below w.heap.size w wr
/-- what never turns: the two cursors share nothing, and are new -/
def Apart (w : World) (g h : Nat) (ag ah : Option Addr) : Prop :=
  w.heap.size ≤ g ∧ w.heap.size ≤ h ∧ g ≠ h ∧ (∀ x, ag = some x → x.block ≠ h) ∧ (∀ x, ah = some x → x.block ≠ g)

theorem bs_from {w : World} {a : Option Addr} {n c : Nat} {l : List UInt8} (h : Bs w a n c l) {i : Nat} (hi : i ≤ n) : Bs w (if c = i then a else a.map (·.add i)) (n - i) (c - i) (l.drop i) := by
  obtain ⟨h1, h2, h3, h4⟩ := h
  refine ⟨by simp; omega, by omega, by omega, fun hm => ?_⟩
  obtain ⟨b, off, rfl, hb, hc⟩ := h4 (by omega)
  rw [if_neg (by omega)]
  refine ⟨b, off + i, ?_, hb, fun j hj => ?_⟩
  · have hp : (⟨b, off, none⟩ : Addr).add i = ⟨b, off + i, none⟩ := by unfold Addr.add; split <;> simp_all
    simp [hp]
  · have e1 : (l.drop i)[j] = l[i + j]'(by simp at hj; omega) := by simp
    rw [e1, Nat.add_assoc]
    exact hc (i + j) (by simp at hj; omega)
theorem step_g {w wr w' : World} {g h : Nat} {ag ah : Option Addr} {l : List UInt8} {pos : Nat} (AP : Apart w g h ag ah) (D : Cur wr 42 h ah l pos) (W : Below w.heap.size w wr) (hk : wr.grownBy w' (some g)) : Cur w' 42 h ah l pos ∧ Below w.heap.size w w' :=
  ⟨D.only hk (fun e => AP.2.2.1 e.symm) AP.2.2.2.2, below_only W hk W.size AP.1⟩
theorem step_h {w wr w' : World} {g h : Nat} {ag ah : Option Addr} {l : List UInt8} {pos : Nat} (AP : Apart w g h ag ah) (C : Cur wr 55 g ag l pos) (W : Below w.heap.size w wr) (hk : wr.grownBy w' (some h)) : Cur w' 55 g ag l pos ∧ Below w.heap.size w w' :=
  ⟨C.only hk AP.2.2.1 AP.2.2.2.1, below_only W hk W.size AP.2.1⟩
theorem cur_al {w : World} {t : TypeId} {g : Nat} {a : Option Addr} {l : List UInt8} {pos : Nat} (h : Cur w t g a l pos) (o : Obj) : Cur (w.alloc o) t g a l pos := h.below ((Below.refl _ _).alloc (Nat.le_refl _) o)
theorem left_int {w : World} {g : Nat} {a : Option Addr} {l : List UInt8} {pos : Nat} (h : Cur w 55 g a l pos) :
    Calls Try.prog 19 #[.pointer (some ⟨g, 0, none⟩)] w fun e w' => e = .returned (.int .i64 ((l.length : Int) - pos)) ∧ ∃ k, w' = w.drewN k := by
  have hp : pos ≤ l.length := by obtain ⟨_, _, _, _, hp, _⟩ := h; exact hp
  have e : ((l.length - pos : Nat) : Int) = (l.length : Int) - pos := by omega
  rw [← e]
  exact left_any h
theorem quiet_drew {P : Program} {f : FuncId} {args : Array Value} {w : World} {n : Nat} {v : Value}
    (h : Calls P f args (w.drewN n) fun e w' => e = .returned v ∧ ∃ k, w' = (w.drewN n).drewN k) : Calls P f args (w.drewN n) fun e w'' => e = .returned v ∧ ∃ m, w'' = w.drewN m :=
  h.mono fun _ _ ⟨he, k, hm⟩ => ⟨he, n + k, by rw [hm, World.drewN_drewN]⟩
theorem quiet_drew_add {P : Program} {f : FuncId} {args : Array Value} {w : World} {a n : Nat} {v : Value}
    (h : Calls P f args (w.drewN (a + n)) fun e w' => e = .returned v ∧ ∃ k, w' = (w.drewN (a + n)).drewN k) : Calls P f args (w.drewN (a + n)) fun e w'' => e = .returned v ∧ ∃ m, w'' = w.drewN (a + m) :=
  h.mono fun _ _ ⟨he, k, hm⟩ => ⟨he, n + k, by rw [hm, World.drewN_drewN, Nat.add_assoc]⟩

set_option maxRecDepth 100000 in
set_option maxHeartbeats 8000000 in
theorem walk {w : World} {a0 a1 : Option Addr} {n0 c0 n1 c1 : Nat} {l0 : List UInt8} (b0 : Bs w a0 n0 c0 l0) (b1 : Ops w a1 n1) :
    Calls Try.prog 3 #[.slice a0 n0 c0, .slice a1 n1 c1] w fun e w' => e = .returned (.bool true) ∧ Below w.heap.size w w' := by
  have HA := Lib.hid (awake_any)
  have HB0 := Lib.hid b0
  have HB1 := Lib.hid b1
  clear b0 b1
  by_cases hs : n0 ≤ 2000 ∧ n1 ≤ 60
  · obtain ⟨h0, h1⟩ := hs
    go_enter Try.func3, Try.ntmps3
    go_wp2_with (first | (go_at_call 8; go_must (refine (HA.out _).mono ?_); rintro e w1 ⟨rfl, q1⟩) | fail)
    have q := Lib.hid q1
    have B0 := Lib.hid (HB0.out.below q1)
    clear q1
    refine (new_any B0.out (by omega)).mono ?_
    rintro e w2 ⟨g, ag, rfl, hc2, hg, hag, q2⟩
    have Q2 := Lib.hid (bthen q.out q2)
    have B2 := Lib.hid (B0.out.below q2)
    go_wp2_with fail
    refine (ref_new_any B2.out (by omega)).mono ?_
    rintro e w3 ⟨h, ah, rfl, hd3, hh, hah, q3⟩
    have hgl := hc2.lt
    have hqs := q.out.size
    have AP : Hid (Apart w g h ag ah) := ⟨by omega, by have := Q2.out.size; omega, by omega, fun x hx => by have := (hag x hx).2; omega, fun x hx => by have := (hah x hx).1; omega⟩
    have R3 : Hid (Rel w g h ag ah l0 0 w3) := ⟨hc2.below q3, hd3, bthen Q2.out q3⟩
    clear hc2 hd3 hg hag hh hah q3 q2 Q2 B2 B0 q hgl hqs
    go_wp2_with fail
    go_loopw [7] (fun i wr => ∃ k pos : Nat, k ≤ n1 ∧ i = .int .i64 k ∧ Rel w g h ag ah l0 pos wr) (fun i _ => n1 - (intOf i).toNat)
    case atStart => exact ⟨0, 0, Nat.zero_le _, rfl, R3.out⟩
    case round =>
      obtain ⟨k, pos, hk, rfl, hc, hd, hw⟩ := hrel
      have C := Lib.hid hc
      have D := Lib.hid hd
      have W := Lib.hid hw
      clear hc hd hw R3
      by_cases hlt : k < n1
      · obtain ⟨b, off, rfl, hb, hcells⟩ := HB1.out (by omega)
        obtain ⟨x, z, hx, hz⟩ := hcells k hlt
        have HX := Lib.hid hx
        have HZ := Lib.hid hz
        have hx1 := (W.out.cell (p := ⟨b, off + k * 2, none⟩) hb).trans hx
        have hz1 := (W.out.cell (p := ⟨b, off + k * 2 + 1, none⟩) hb).trans hz
        clear hx hz hcells
        have hbb := Lib.hid hb
        have hp : pos ≤ l0.length := by obtain ⟨_, _, _, _, hp, _⟩ := C.out; exact hp
        by_cases hx0 : x = 0
        · subst hx0
          go_wp2_with fail
          by_cases hlp : pos < l0.length
          · refine (byte_more C.out hlp).mono ?_
            rintro e w4 ⟨rfl, hc4, hk4⟩
            obtain ⟨hd4, hw4⟩ := step_g AP.out D.out W.out hk4
            have C4 := Lib.hid (cur_al hc4 (Obj.cells #[.int .i64 0, .int .i64 0] 33))
            have D4 := Lib.hid (cur_al hd4 (Obj.cells #[.int .i64 0, .int .i64 0] 33))
            have W4 := Lib.hid (bal hw4 (Obj.cells #[.int .i64 0, .int .i64 0] 33))
            have E4 := Lib.hid (Blk.new w4 33 #[.int .i64 0, .int .i64 0])
            have HG4 : Hid (h < w4.heap.size) := hd4.lt
            clear hc4 hk4 hd4 hw4 C D W hx1 hz1
            go_wp2_with fail
            refine (ref_take_more (m := 1) D4.out (by omega)).mono ?_
            rintro e w5 ⟨a5, c5, rfl, ho5, hd5, hk5⟩
            obtain ⟨hc5, hw5⟩ := step_h AP.out C4.out W4.out hk5
            have E5 := E4.out.only hk5 (by have := HG4.out; omega)
            have e50 := E5.cell 0
            have e51 := E5.cell 1
            have el := E5.lt
            have C5 := Lib.hid (cur_al hc5 (Obj.cells #[.int .i64 0, .int .i64 0] 33))
            have D5 := Lib.hid (cur_al hd5 (Obj.cells #[.int .i64 0, .int .i64 0] 33))
            have W5 := Lib.hid (bal hw5 (Obj.cells #[.int .i64 0, .int .i64 0] 33))
            obtain ⟨g5, rfl, hg5, hg5l⟩ := ho5.pos (by omega)
            have hv5 := ho5.cell (j := 0) (by simp; omega)
            have ev : ((l0.drop pos).take 1)[0]'(by simp; omega) = l0[pos] := by simp
            rw [ev] at hv5
            simp only [List.getElem?_toArray, List.getElem?_cons_zero, List.getElem?_cons_succ] at e50 e51
            clear E5 ho5 hd5 hk5 hc5 hw5 C4 D4 W4 E4 HG4 ev
            generalize l0[pos] = y at *
            go_wp2_with fail
            clear e50 e51 el hv5 hg5 hg5l
            generalize w5.alloc (Obj.cells #[Value.int IntKind.i64 0, Value.int IntKind.i64 0] 33) = w6 at *
            obtain ⟨cc, hbz, hsz, _, hpz, hlz⟩ := D5.out
            have hz0 := hbz.cell 0
            have hz1 := hbz.cell 1
            simp only [List.getElem?_toArray, List.getElem?_cons_zero, List.getElem?_cons_succ] at hz0 hz1
            clear hbz hsz
            go_quiet ((first | (go_at_call 18; exact quiet_left (pos_any (C5.out.drewN _))) | (go_at_call 19; exact quiet_drew (left_int (C5.out.drewN _)))))
            go_wp2
            go_roundw
            case rel => exact ⟨k + 1, pos + 1, by omega, by go_num, C5.out.drewN _, D5.out.drewN _, below_drewN W5.out _⟩
            case measure => simp [intOf]; omega
          · refine (byte_end C.out hlp).mono ?_
            rintro e w4 ⟨rfl, q4⟩
            have C4 := Lib.hid (cur_al (C.out.below q4) (Obj.cells #[.int .i64 1, .int .i64 l0.length] 33))
            have D4 := Lib.hid (cur_al (D.out.below q4) (Obj.cells #[.int .i64 1, .int .i64 l0.length] 33))
            have W4 := Lib.hid (bal (bthen W.out q4) (Obj.cells #[.int .i64 1, .int .i64 l0.length] 33))
            have E4 := Lib.hid (Blk.new w4 33 #[.int .i64 1, .int .i64 l0.length])
            have S4 : Hid (w.heap.size ≤ w4.heap.size) := Nat.le_trans W.out.size q4.size
            clear q4 C D W hx1 hz1
            go_wp2_with fail
            refine (ref_take_short (n := 1) D4.out (by omega)).mono ?_
            rintro e w5 ⟨rfl, q5⟩
            have E5 := E4.out.below q5 E4.out.lt
            have e50 := E5.cell 0
            have e51 := E5.cell 1
            have el := E5.lt
            have C5 := Lib.hid (cur_al (C4.out.below q5) (Obj.cells #[.int .i64 1, .int .i64 l0.length] 33))
            have D5 := Lib.hid (cur_al (D4.out.below q5) (Obj.cells #[.int .i64 1, .int .i64 l0.length] 33))
            have W5 := Lib.hid (bal (bthen W4.out q5) (Obj.cells #[.int .i64 1, .int .i64 l0.length] 33))
            simp only [List.getElem?_toArray, List.getElem?_cons_zero, List.getElem?_cons_succ] at e50 e51
            clear E5 q5 C4 D4 W4 E4
            go_wp2_with fail
            clear e50 e51 el
            generalize w5.alloc (Obj.cells #[Value.int IntKind.i64 1, Value.int IntKind.i64 l0.length] 33) = w6 at *
            obtain ⟨cc, hbz, hsz, _, hpz, hlz⟩ := D5.out
            have hz0 := hbz.cell 0
            have hz1 := hbz.cell 1
            simp only [List.getElem?_toArray, List.getElem?_cons_zero, List.getElem?_cons_succ] at hz0 hz1
            clear hbz hsz
            go_quiet ((first | (go_at_call 18; exact quiet_left (pos_any (C5.out.drewN _))) | (go_at_call 19; exact quiet_drew (left_int (C5.out.drewN _)))))
            go_wp2
            go_roundw
            case rel => exact ⟨k + 1, pos, by omega, by go_num, C5.out.drewN _, D5.out.drewN _, below_drewN W5.out _⟩
            case measure => simp [intOf]; omega
        · by_cases hx1' : x = 1
          · subst hx1'
            go_wp2_with fail
            by_cases hzn : z < 0
            · refine (take_neg C.out hzn).mono ?_
              rintro e w4 ⟨rfl, q4⟩
              have C4 := Lib.hid (cur_al (C.out.below q4) (Obj.cells #[.int .i64 9, .int .i64 pos] 33))
              have D4 := Lib.hid (cur_al (D.out.below q4) (Obj.cells #[.int .i64 9, .int .i64 pos] 33))
              have W4 := Lib.hid (bal (bthen W.out q4) (Obj.cells #[.int .i64 9, .int .i64 pos] 33))
              have E4 := Lib.hid (Blk.new w4 33 #[.int .i64 9, .int .i64 pos])
              have S4 : Hid (w.heap.size ≤ w4.heap.size) := Nat.le_trans W.out.size q4.size
              clear q4 C D W hx1 hz1
              have hz1 := (W4.out.cell (p := ⟨b, off + k * 2 + 1, none⟩) hbb.out).trans HZ.out
              have hbl4 : b < w4.heap.size := by have := S4.out; have := hbb.out; omega
              go_wp2_with fail
              refine (ref_take_neg D4.out hzn).mono ?_
              rintro e w5 ⟨rfl, q5⟩
              have E5 := E4.out.below q5 E4.out.lt
              have e50 := E5.cell 0
              have e51 := E5.cell 1
              have el := E5.lt
              have C5 := Lib.hid (cur_al (C4.out.below q5) (Obj.cells #[.int .i64 9, .int .i64 pos] 33))
              have D5 := Lib.hid (cur_al (D4.out.below q5) (Obj.cells #[.int .i64 9, .int .i64 pos] 33))
              have W5 := Lib.hid (bal (bthen W4.out q5) (Obj.cells #[.int .i64 9, .int .i64 pos] 33))
              simp only [List.getElem?_toArray, List.getElem?_cons_zero, List.getElem?_cons_succ] at e50 e51
              clear E5 q5 C4 D4 W4 E4
              go_wp2_with fail
              refine (bytes_any (Bs.nil_ _) (Bs.nil_ _)).mono ?_
              rintro e w5' ⟨rfl, rfl⟩
              rw [eqB_self]
              go_wp2_with fail
              clear e50 e51 el
              generalize w5.alloc (Obj.cells #[Value.int IntKind.i64 9, Value.int IntKind.i64 pos] 33) = w6 at *
              obtain ⟨cc, hbz, hsz, _, hpz, hlz⟩ := D5.out
              have hz0 := hbz.cell 0
              have hz1 := hbz.cell 1
              simp only [List.getElem?_toArray, List.getElem?_cons_zero, List.getElem?_cons_succ] at hz0 hz1
              clear hbz hsz
              go_quiet ((first | (go_at_call 18; exact quiet_left (pos_any (C5.out.drewN _))) | (go_at_call 19; exact quiet_drew (left_int (C5.out.drewN _)))))
              go_wp2
              go_roundw
              case rel => exact ⟨k + 1, pos, by omega, by go_num, C5.out.drewN _, D5.out.drewN _, below_drewN W5.out _⟩
              case measure => simp [intOf]; omega
            · by_cases hzl : ((l0.length - pos : Nat) : Int) < z
              · refine (take_short C.out hzl).mono ?_
                rintro e w4 ⟨rfl, q4⟩
                have C4 := Lib.hid (cur_al (C.out.below q4) (Obj.cells #[.int .i64 1, .int .i64 l0.length] 33))
                have D4 := Lib.hid (cur_al (D.out.below q4) (Obj.cells #[.int .i64 1, .int .i64 l0.length] 33))
                have W4 := Lib.hid (bal (bthen W.out q4) (Obj.cells #[.int .i64 1, .int .i64 l0.length] 33))
                have E4 := Lib.hid (Blk.new w4 33 #[.int .i64 1, .int .i64 l0.length])
                have S4 : Hid (w.heap.size ≤ w4.heap.size) := Nat.le_trans W.out.size q4.size
                clear q4 C D W hx1 hz1
                have hz1 := (W4.out.cell (p := ⟨b, off + k * 2 + 1, none⟩) hbb.out).trans HZ.out
                have hbl4 : b < w4.heap.size := by have := S4.out; have := hbb.out; omega
                go_wp2_with fail
                refine (ref_take_short D4.out hzl).mono ?_
                rintro e w5 ⟨rfl, q5⟩
                have E5 := E4.out.below q5 E4.out.lt
                have e50 := E5.cell 0
                have e51 := E5.cell 1
                have el := E5.lt
                have C5 := Lib.hid (cur_al (C4.out.below q5) (Obj.cells #[.int .i64 1, .int .i64 l0.length] 33))
                have D5 := Lib.hid (cur_al (D4.out.below q5) (Obj.cells #[.int .i64 1, .int .i64 l0.length] 33))
                have W5 := Lib.hid (bal (bthen W4.out q5) (Obj.cells #[.int .i64 1, .int .i64 l0.length] 33))
                simp only [List.getElem?_toArray, List.getElem?_cons_zero, List.getElem?_cons_succ] at e50 e51
                clear E5 q5 C4 D4 W4 E4
                go_wp2_with fail
                refine (bytes_any (Bs.nil_ _) (Bs.nil_ _)).mono ?_
                rintro e w5' ⟨rfl, rfl⟩
                rw [eqB_self]
                go_wp2_with fail
                clear e50 e51 el
                generalize w5.alloc (Obj.cells #[Value.int IntKind.i64 1, Value.int IntKind.i64 l0.length] 33) = w6 at *
                obtain ⟨cc, hbz, hsz, _, hpz, hlz⟩ := D5.out
                have hz0 := hbz.cell 0
                have hz1 := hbz.cell 1
                simp only [List.getElem?_toArray, List.getElem?_cons_zero, List.getElem?_cons_succ] at hz0 hz1
                clear hbz hsz
                go_quiet ((first | (go_at_call 18; exact quiet_left (pos_any (C5.out.drewN _))) | (go_at_call 19; exact quiet_drew (left_int (C5.out.drewN _)))))
                go_wp2
                go_roundw
                case rel => exact ⟨k + 1, pos, by omega, by go_num, C5.out.drewN _, D5.out.drewN _, below_drewN W5.out _⟩
                case measure => simp [intOf]; omega
              · obtain ⟨m, rfl⟩ : ∃ m : Nat, z = m := ⟨z.toNat, by omega⟩
                have hm : pos + m ≤ l0.length := by omega
                refine (take_more_any C.out hm).mono ?_
                rintro e w4 ⟨a4, c4, rfl, ho4, hc4, hk4⟩
                obtain ⟨hd4, hw4⟩ := step_g AP.out D.out W.out hk4
                have C4 := Lib.hid (cur_al hc4 (Obj.cells #[.int .i64 0, .int .i64 0] 33))
                have D4 := Lib.hid (cur_al hd4 (Obj.cells #[.int .i64 0, .int .i64 0] 33))
                have W4 := Lib.hid (bal hw4 (Obj.cells #[.int .i64 0, .int .i64 0] 33))
                have E4 := Lib.hid (Blk.new w4 33 #[.int .i64 0, .int .i64 0])
                have O4 := Lib.hid (ho4.below ((Below.refl _ _).alloc (Nat.le_refl _) (Obj.cells #[.int .i64 0, .int .i64 0] 33)))
                have HG4 : Hid (h < w4.heap.size) := hd4.lt
                have HGr : Hid (h < wr.heap.size) := D.out.lt
                clear hc4 hk4 hd4 hw4 ho4 C D W hx1 hz1
                have hz1 := (W4.out.cell (p := ⟨b, off + k * 2 + 1, none⟩) hbb.out).trans HZ.out
                have hbl4 : b < w4.heap.size := by have := W4.out.size; simp at this; have := hbb.out; have := HG4.out; have := AP.out.2.1; omega
                go_wp2_with fail
                refine (ref_take_more D4.out hm).mono ?_
                rintro e w5 ⟨a5, c5, rfl, ho5, hd5, hk5⟩
                obtain ⟨hc5, hw5⟩ := step_h AP.out C4.out W4.out hk5
                have E5 := E4.out.only hk5 (by have := HG4.out; omega)
                have O4' := Lib.hid ((O4.out.only hk5 (fun y hy => by have := (O4.out.base y hy).1; have := HGr.out; omega)).bs)
                have O5 := Lib.hid ho5.bs
                have e50 := E5.cell 0
                have e51 := E5.cell 1
                have el := E5.lt
                have C5 := Lib.hid (cur_al hc5 (Obj.cells #[.int .i64 0, .int .i64 0] 33))
                have D5 := Lib.hid (cur_al hd5 (Obj.cells #[.int .i64 0, .int .i64 0] 33))
                have W5 := Lib.hid (bal hw5 (Obj.cells #[.int .i64 0, .int .i64 0] 33))
                simp only [List.getElem?_toArray, List.getElem?_cons_zero, List.getElem?_cons_succ] at e50 e51
                clear E5 ho5 hd5 hk5 hc5 hw5 C4 D4 W4 E4 HG4 O4
                go_wp2_with fail
                refine (bytes_any (O4'.out.alloc _) (O5.out.alloc _)).mono ?_
                rintro e w5' ⟨rfl, rfl⟩
                rw [eqB_self]
                go_wp2_with fail
                clear e50 e51 el
                generalize w5.alloc (Obj.cells #[Value.int IntKind.i64 0, Value.int IntKind.i64 0] 33) = w6 at *
                obtain ⟨cc, hbz, hsz, _, hpz, hlz⟩ := D5.out
                have hz0 := hbz.cell 0
                have hz1 := hbz.cell 1
                simp only [List.getElem?_toArray, List.getElem?_cons_zero, List.getElem?_cons_succ] at hz0 hz1
                clear hbz hsz
                go_quiet ((first | (go_at_call 18; exact quiet_left (pos_any (C5.out.drewN _))) | (go_at_call 19; exact quiet_drew (left_int (C5.out.drewN _)))))
                go_wp2
                go_roundw
                case rel => exact ⟨k + 1, pos + m, by omega, by go_num, C5.out.drewN _, D5.out.drewN _, below_drewN W5.out _⟩
                case measure => simp [intOf]; omega
          · have hf0 : (x == 0) = false := by simpa using hx0
            have hf1 : (x == 1) = false := by simpa using hx1'
            clear hx0 hx1'
            by_cases hx2 : x = 2
            · subst hx2
              by_cases hz : 0 ≤ z ∧ z ≤ l0.length
              · obtain ⟨m, rfl⟩ : ∃ m : Nat, z = m := ⟨z.toNat, by omega⟩
                have hm : m ≤ l0.length := by omega
                have Cd : Hid (Cur wr.drew 55 g ag l0 pos) := C.out
                have Dd : Hid (Cur wr.drew 42 h ah l0 pos) := D.out
                have Wd : Hid (Below w.heap.size w wr.drew) := W.out.drew
                go_wp2_with fail
                go_region_held3 (fun w' => w'.cell? ⟨b, off + k * 2 + 1, none⟩ = some (.int .i64 m)) (first | exact hz1 | assumption)
                  (first | (go_at_call 15; refine (seek_ok Cd.out hm).mono ?_; rintro e w4 ⟨rfl, hc4, hk4⟩; have hz2 := (((step_g AP.out Dd.out Wd.out hk4).2).cell (p := ⟨b, off + k * 2 + 1, none⟩) hb).trans HZ.out) | (go_at_call 16; refine (ref_seek_ok (step_g AP.out Dd.out Wd.out hk4).1 hm).mono ?_; rintro e w5 ⟨rfl, hd5, hk5⟩; have hz3 := (((step_h AP.out hc4 (step_g AP.out Dd.out Wd.out hk4).2 hk5).2).cell (p := ⟨b, off + k * 2 + 1, none⟩) hb).trans HZ.out))
                obtain ⟨hd4, hw4⟩ := step_g AP.out Dd.out Wd.out hk4
                obtain ⟨hc5, hw5⟩ := step_h AP.out hc4 hw4 hk5
                have C5 := Lib.hid hc5
                have D5 := Lib.hid hd5
                have W5 := Lib.hid hw5
                clear hc4 hk4 hd4 hw4 hc5 hd5 hw5 hk5 hz2 hz3 C D W Cd Dd Wd hx1 hz1
                go_wp2_with fail
                obtain ⟨cc, hbz, hsz, _, hpz, hlz⟩ := D5.out
                have hz0 := hbz.cell 0
                have hz1 := hbz.cell 1
                simp only [List.getElem?_toArray, List.getElem?_cons_zero, List.getElem?_cons_succ] at hz0 hz1
                clear hbz hsz
                go_quiet ((first | (go_at_call 18; exact quiet_left (pos_any (C5.out.drewN _))) | (go_at_call 19; exact quiet_drew (left_int (C5.out.drewN _)))))
                go_wp2
                go_roundw
                case rel => exact ⟨k + 1, m, by omega, by go_num, C5.out.drewN _, D5.out.drewN _, below_drewN W5.out _⟩
                case measure => simp [intOf]; omega
              · have hzz : z < 0 ∨ (l0.length : Int) < z := by omega
                have Cd : Hid (Cur wr.drew 55 g ag l0 pos) := C.out
                have Dd : Hid (Cur wr.drew 42 h ah l0 pos) := D.out
                have Wd : Hid (Below w.heap.size w wr.drew) := W.out.drew
                have HH := Lib.hid hzz
                clear hzz hz
                go_wp2_with fail
                go_region_held3 (fun w' => w'.cell? ⟨b, off + k * 2 + 1, none⟩ = some (.int .i64 z)) (first | exact hz1 | assumption)
                  (first | (go_at_call 15; refine (seek_bad Cd.out HH.out).mono ?_; rintro e w4 ⟨rfl, q4⟩; have hz2 := ((bthen Wd.out q4).cell (p := ⟨b, off + k * 2 + 1, none⟩) hb).trans HZ.out) | (go_at_call 16; refine (ref_seek_bad (Dd.out.below q4) HH.out).mono ?_; rintro e w5 ⟨rfl, q5⟩; have hz3 := ((bthen (bthen Wd.out q4) q5).cell (p := ⟨b, off + k * 2 + 1, none⟩) hb).trans HZ.out))
                have C5 := Lib.hid ((Cd.out.below q4).below q5)
                have D5 := Lib.hid ((Dd.out.below q4).below q5)
                have W5 := Lib.hid (bthen (bthen Wd.out q4) q5)
                clear q4 q5 hz2 hz3 C D W Cd Dd Wd hx1 hz1
                go_wp2_with fail
                obtain ⟨cc, hbz, hsz, _, hpz, hlz⟩ := D5.out
                have hz0 := hbz.cell 0
                have hz1 := hbz.cell 1
                simp only [List.getElem?_toArray, List.getElem?_cons_zero, List.getElem?_cons_succ] at hz0 hz1
                clear hbz hsz
                go_quiet ((first | (go_at_call 18; exact quiet_left (pos_any (C5.out.drewN _))) | (go_at_call 19; exact quiet_drew (left_int (C5.out.drewN _)))))
                go_wp2
                go_roundw
                case rel => exact ⟨k + 1, pos, by omega, by go_num, C5.out.drewN _, D5.out.drewN _, below_drewN W5.out _⟩
                case measure => simp [intOf]; omega
            · have hf2 : (x == 2) = false := by simpa using hx2
              clear hx2
              obtain ⟨cr, hbr, hsr, hner, hpr, hlr⟩ := D.out
              have hr0 := hbr.cell 0
              have hr1 := hbr.cell 1
              simp only [List.getElem?_toArray, List.getElem?_cons_zero, List.getElem?_cons_succ] at hr0 hr1
              have HBR := Lib.hid hbr
              have HSR := Lib.hid hsr
              have hcr := hsr.2.1
              have hcr2 := hsr.2.2.1
              unfold maxLen at hcr2
              have hp0 : (0 : Int) ≤ pos := by omega
              have hp1 : (pos : Int) ≤ l0.length := by omega
              clear hbr hsr hner
              rcases ah with _ | y
              · have hl00 : l0.length = 0 := by
                  rcases Nat.eq_zero_or_pos l0.length with h | h
                  · exact h
                  · obtain ⟨_, _, e, _⟩ := HSR.out.2.2.2 h
                    cases e
                have hpos0 : pos = 0 := by omega
                have hle : l0 = [] := List.eq_nil_of_length_eq_zero hl00
                subst hpos0
                subst hle
                clear hl00
                go_wp2_with fail
                go_region_held3 (fun w' => w'.cell? ⟨h, 0, none⟩ = some (.slice none ([] : List UInt8).length cr) ∧ w'.cell? ⟨h, 1, none⟩ = some (.int .i64 ((0 : Nat) : Int))) (first | exact ⟨hr0, hr1⟩ | exact ⟨hr2, hr3⟩ | assumption)
                  (first | (go_at_call 17; refine (rest_any (w := wr.drew) C.out).mono ?_; rintro e w4 ⟨a4, c4, rfl, ho4, q4⟩; have hr2 := ((HBR.out.below (w := wr.drew) q4 (HBR.out.lt)).cell 0); have hr3 := ((HBR.out.below (w := wr.drew) q4 (HBR.out.lt)).cell 1); simp only [List.getElem?_toArray, List.getElem?_cons_zero, List.getElem?_cons_succ] at hr2 hr3) | (go_at_call 14; refine (bytes_any ho4.bs (Bs.below (w := wr.drew) (show Bs wr none 0 cr [] from HSR.out) q4)).mono ?_; rintro e w5 ⟨rfl, rfl⟩; rw [show eqB (List.drop 0 []) [] = true from eqB_self _]))
                have C5 := Lib.hid (Cur.below (w := wr.drew) C.out q4)
                have D5 := Lib.hid (Cur.below (w := wr.drew) D.out q4)
                have W5 := Lib.hid (bthen W.out.drew q4)
                clear q4 ho4 hr0 hr1 hr2 hr3 C D W HBR HSR hx1 hz1
                go_wp2_with fail
                obtain ⟨cc, hbz, hsz, _, hpz, hlz⟩ := D5.out
                have hz0 := hbz.cell 0
                have hz1 := hbz.cell 1
                simp only [List.getElem?_toArray, List.getElem?_cons_zero, List.getElem?_cons_succ] at hz0 hz1
                clear hbz hsz
                go_quiet ((first | (go_at_call 18; exact quiet_left (pos_any (C5.out.drewN _))) | (go_at_call 19; exact quiet_drew (left_int (C5.out.drewN _)))))
                go_wp2
                go_roundw
                case rel => exact ⟨k + 1, 0, by omega, by go_num, C5.out.drewN _, D5.out.drewN _, below_drewN W5.out _⟩
                case measure => simp [intOf]; omega
              · by_cases hcp : cr = pos
                · have hlp : l0.length - pos = 0 := by omega
                  have hdd : Hid (l0.drop pos = []) := List.drop_eq_nil_of_le (by omega)
                  have HSR2 : Hid (Bs wr (some y) 0 0 []) := ⟨rfl, Nat.le_refl _, by decide, fun h => absurd h (by omega)⟩
                  go_wp2_with fail
                  go_region_held3 (fun w' => w'.cell? ⟨h, 0, none⟩ = some (.slice (some y) l0.length cr) ∧ w'.cell? ⟨h, 1, none⟩ = some (.int .i64 pos)) (first | exact ⟨hr0, hr1⟩ | exact ⟨hr2, hr3⟩ | assumption)
                    (first | (go_at_call 17; refine (rest_any (w := wr.drew) C.out).mono ?_; rintro e w4 ⟨a4, c4, rfl, ho4, q4⟩; have hr2 := ((HBR.out.below (w := wr.drew) q4 (HBR.out.lt)).cell 0); have hr3 := ((HBR.out.below (w := wr.drew) q4 (HBR.out.lt)).cell 1); simp only [List.getElem?_toArray, List.getElem?_cons_zero, List.getElem?_cons_succ] at hr2 hr3) | (go_at_call 14; have ho5 := ho4.bs; rw [hlp, hdd.out] at ho5; refine (bytes_any ho5 (Bs.below (w := wr.drew) HSR2.out q4)).mono ?_; rintro e w5 ⟨rfl, rfl⟩; rw [eqB_self]))
                  have C5 := Lib.hid (Cur.below (w := wr.drew) C.out q4)
                  have D5 := Lib.hid (Cur.below (w := wr.drew) D.out q4)
                  have W5 := Lib.hid (bthen W.out.drew q4)
                  clear q4 ho4 ho5 hr0 hr1 hr2 hr3 C D W HBR HSR hx1 hz1
                  go_wp2_with fail
                  obtain ⟨cc, hbz, hsz, _, hpz, hlz⟩ := D5.out
                  have hz0 := hbz.cell 0
                  have hz1 := hbz.cell 1
                  simp only [List.getElem?_toArray, List.getElem?_cons_zero, List.getElem?_cons_succ] at hz0 hz1
                  clear hbz hsz
                  go_quiet ((first | (go_at_call 18; exact quiet_left (pos_any (C5.out.drewN _))) | (go_at_call 19; exact quiet_drew (left_int (C5.out.drewN _)))))
                  go_wp2
                  go_roundw
                  case rel => exact ⟨k + 1, pos, by omega, by go_num, C5.out.drewN _, D5.out.drewN _, below_drewN W5.out _⟩
                  case measure => simp [intOf]; omega
                · have HSR2 : Hid (Bs wr (some (y.add pos)) (l0.length - pos) (cr - pos) (l0.drop pos)) := by
                    have h1 := bs_from HSR.out (by omega : pos ≤ l0.length)
                    rw [if_neg hcp] at h1
                    exact h1
                  go_wp2_with fail
                  go_region_held3 (fun w' => w'.cell? ⟨h, 0, none⟩ = some (.slice (some y) l0.length cr) ∧ w'.cell? ⟨h, 1, none⟩ = some (.int .i64 pos)) (first | exact ⟨hr0, hr1⟩ | exact ⟨hr2, hr3⟩ | assumption)
                    (first | (go_at_call 17; refine (rest_any (w := wr.drew) C.out).mono ?_; rintro e w4 ⟨a4, c4, rfl, ho4, q4⟩; have hr2 := ((HBR.out.below (w := wr.drew) q4 (HBR.out.lt)).cell 0); have hr3 := ((HBR.out.below (w := wr.drew) q4 (HBR.out.lt)).cell 1); simp only [List.getElem?_toArray, List.getElem?_cons_zero, List.getElem?_cons_succ] at hr2 hr3) | (go_at_call 14; refine (bytes_any ho4.bs (Bs.below (w := wr.drew) HSR2.out q4)).mono ?_; rintro e w5 ⟨rfl, rfl⟩; rw [eqB_self]))
                  have C5 := Lib.hid (Cur.below (w := wr.drew) C.out q4)
                  have D5 := Lib.hid (Cur.below (w := wr.drew) D.out q4)
                  have W5 := Lib.hid (bthen W.out.drew q4)
                  clear q4 ho4 hr0 hr1 hr2 hr3 C D W HBR HSR hx1 hz1
                  go_wp2_with fail
                  obtain ⟨cc, hbz, hsz, _, hpz, hlz⟩ := D5.out
                  have hz0 := hbz.cell 0
                  have hz1 := hbz.cell 1
                  simp only [List.getElem?_toArray, List.getElem?_cons_zero, List.getElem?_cons_succ] at hz0 hz1
                  clear hbz hsz
                  go_quiet ((first | (go_at_call 18; exact quiet_left (pos_any (C5.out.drewN _))) | (go_at_call 19; exact quiet_drew (left_int (C5.out.drewN _)))))
                  go_wp2
                  go_roundw
                  case rel => exact ⟨k + 1, pos, by omega, by go_num, C5.out.drewN _, D5.out.drewN _, below_drewN W5.out _⟩
                  case measure => simp [intOf]; omega
      · go_wp2
        go_ret
        exact ⟨rfl, W.out⟩
  · go_enter Try.func3, Try.ntmps3
    go_wp2_with (first | (go_at_call 8; go_must (refine (HA.out _).mono ?_); rintro e w1 ⟨rfl, q1⟩) | fail)
    all_goals
      go_ret
      exact ⟨rfl, bthen (by assumption) (by assumption)⟩
end Go.Proofs.Ytkjfblhaondnnaa.cursorRuns
