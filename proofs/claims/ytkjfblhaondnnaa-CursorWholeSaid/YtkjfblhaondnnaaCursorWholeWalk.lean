/-
  The walk of the law CursorWhole.
-/
import Derived.Test.YtkjfblhaondnnaaAwake
import Derived.Test.YtkjfblhaondnnaaAppend
namespace Go.Proofs.Ytkjfblhaondnnaa.cursorWhole
open Go.RowKit

/-- what holds at the head of each round: v holds the bytes read so far -/
def Rel (w : World) (B g : Nat) (ac : Option Addr) (l0 : List UInt8) (v : Value) (wr : World) : Prop :=
  ∃ pos a c, v = .slice a pos c ∧ Own wr B 5 a pos c (l0.take pos) ∧ Cur wr 55 g ac l0 pos ∧ B ≤ wr.heap.size ∧ Below w.heap.size w wr

theorem cur_belowB {w w' : World} {B : Nat} {t : TypeId} {g : Nat} {a : Option Addr} {l : List UInt8} {pos : Nat} (h : Cur w t g a l pos) (hb : Below B w w') (hg : g < B) (ha : ∀ x, a = some x → x.block < B) : Cur w' t g a l pos := by
  obtain ⟨c, h1, h2, h3⟩ := h
  exact ⟨c, h1.below hb hg, bs_belowB h2 hb ha, h3⟩

set_option maxHeartbeats 1000000 in
theorem walk {w : World} {a0 a1 : Option Addr} {n0 c0 n1 c1 : Nat} {l0 l1 : List UInt8} (b0 : Bs w a0 n0 c0 l0) (b1 : Bs w a1 n1 c1 l1) :
    Calls Try.prog 4 #[.slice a0 n0 c0, .slice a1 n1 c1] w fun e w' => e = .returned (.bool true) ∧ Below w.heap.size w w' := by
  have HA := Lib.hid (awake_any)
  have HB0 := Lib.hid b0
  have HB1 := Lib.hid b1
  clear b0 b1
  by_cases hs : n0 ≤ 2000 ∧ n1 ≤ 60
  · obtain ⟨h0, h1⟩ := hs
    go_enter Try.func4, Try.ntmps4
    go_wp2_with (first | (go_at_call 8; go_must (refine (HA.out _).mono ?_); rintro e w1 ⟨rfl, q1⟩) | fail)
    have q := Lib.hid q1
    have B0 := Lib.hid (HB0.out.below q1)
    have B1 := Lib.hid (HB1.out.below q1)
    clear q1
    refine (new_any B0.out (by omega)).mono ?_
    rintro e w2 ⟨g, ac, rfl, hcur, hg, hac, q1⟩
    have hgB : Hid (g < w2.heap.size) := hcur.lt
    have hacB : Hid (∀ x, ac = some x → x.block < w2.heap.size) := fun x hx => Nat.lt_trans (hac x hx).2 hgB.out
    have hgw : Hid (w.heap.size ≤ g) := Nat.le_trans q.out.size hg
    have hR : Hid (Rel w w2.heap.size g ac l0 (.slice none 0 0) w2) := ⟨0, none, 0, rfl, World.ownsRow_nil _ _ _ _, hcur, Nat.le_refl _, bthen q.out q1⟩
    have hBw : Hid (w.heap.size ≤ w2.heap.size) := (bthen q.out q1).size
    obtain ⟨BB, hBB⟩ : ∃ BB, w2.heap.size = BB := ⟨_, rfl⟩
    rw [hBB] at hgB hacB hR hBw
    clear hBB q1 q hcur hg hac B0 B1
    obtain ⟨i0, hi, hz0, hz1, hz2⟩ := info_parts info_u8
    go_wp2_with fail
    go_loopw [6, 7] (fun v i wr => ∃ k : Nat, k ≤ n1 ∧ i = .int .i64 k ∧ Rel w BB g ac l0 v wr) (fun _ i _ => n1 - (intOf i).toNat)
    case atStart => exact ⟨0, Nat.zero_le _, rfl, hR.out⟩
    case round =>
      obtain ⟨k, hk, rfl, pos, a, c, rfl, ho, hcur, hB, hw⟩ := hrel
      have HO := Lib.hid ho
      have HC := Lib.hid hcur
      have HBr := Lib.hid hB
      have HW := Lib.hid hw
      have hp : pos ≤ l0.length := by obtain ⟨_, _, _, _, hp, _⟩ := hcur; exact hp
      clear ho hcur hB hw
      by_cases hlt : k < n1
      · obtain ⟨b, off, hkl, rfl, hb, hc⟩ := HB1.out.at_ hlt
        have hcw := (HW.out.cell (p := ⟨b, off + k, none⟩) hb).trans hc
        have HCC := Lib.hid hc
        have hb' := Lib.hid hb
        have hx := byte_bd l1[k]
        obtain ⟨x, ex⟩ : ∃ x : Nat, l1[k].toNat = x := ⟨_, rfl⟩
        rw [ex] at hcw hx HCC
        clear ex hc hb hkl
        by_cases hpos : pos + x ≤ l0.length
        · go_wp2_with fail
          refine (take_more_any HC.out hpos).mono ?_
          rintro e w3 ⟨a3, c3, rfl, ho3, hc3, hk3⟩
          have hg3 : w.heap.size < w3.heap.size := by have := hc3.lt; have := hgw.out; omega
          have W3 := Lib.hid (HW.out.grown hk3 (Nat.le_trans hBw.out HBr.out) (fun k hk => by injection hk with hk; have := hgw.out; omega))
          have hcw3 := (W3.out.cell (p := ⟨b, off + k, none⟩) hb'.out).trans HCC.out
          have O3 := Lib.hid (HO.out.only hk3 (fun x hx => by have := (HO.out.base x hx).1; have := hgB.out; omega))
          have C3 := Lib.hid hc3
          have X3 := Lib.hid ho3.bs
          have S3 : Hid (wr.heap.size ≤ w3.heap.size) := hk3.size
          clear ho3 hc3 hk3 hcw
          have hbs : b < w3.heap.size := by have := hb'.out; omega
          go_wp2_with (at_builtin; go_must (refine wpList_app _ rfl _ _ 22 rfl BB 5 i0 Try.underlying22 hi hz0 hz1 hz2 a pos c (l0.take pos) rfl (O3.out.below ((Below.refl _ _).alloc (Nat.le_refl _) _)) a3 x c3 _ rfl (X3.out.alloc _) ?q1 ?q2 ?_))
          case q1 => have := HB0.out.len; omega
          case q2 => have := HBr.out; have := S3.out; simp; omega
          intro a4 c4 w4 ho4 hg4
          have D3 := app_below (O3.out.below ((Below.refl _ _).alloc (Nat.le_refl _) (Obj.cells #[Value.int IntKind.i64 0, Value.int IntKind.i64 0] 33))) hg4 (Nat.le_refl _) (by have := HBr.out; have := S3.out; simp; omega)
          rw [← List.take_add] at ho4
          have O4 := Lib.hid ho4
          have C4 := Lib.hid (cur_belowB (C3.out.below ((Below.refl _ _).alloc (Nat.le_refl _) _)) D3 hgB.out hacB.out)
          have W4 := Lib.hid ((W3.out.alloc (by omega) _).trans (D3.mono hBw.out))
          have S4 : Hid (BB ≤ w4.heap.size) := by have := D3.size; have := HBr.out; have := S3.out; simp at *; show _ ≤ _; omega
          clear D3 ho4 hg4 hcw3
          go_wp2
          go_roundw
          case rel => exact ⟨k + 1, by omega, by go_num, pos + x, a4, c4, rfl, O4.out, C4.out, S4.out, W4.out⟩
          case measure => simp [intOf]; omega
        · go_wp2_with fail
          refine (take_short HC.out (by omega)).mono ?_
          rintro e w3 ⟨rfl, q3⟩
          have hg3 : w.heap.size < w3.heap.size := by have := HC.out.lt; have := q3.size; have := hgw.out; omega
          have W3 := Lib.hid (HW.out.trans (q3.mono (Nat.le_trans hBw.out HBr.out)))
          have hcw3 := (W3.out.cell (p := ⟨b, off + k, none⟩) hb'.out).trans HCC.out
          have O3 := Lib.hid (HO.out.below q3)
          have C3 := Lib.hid (HC.out.below q3)
          have S3 : Hid (wr.heap.size ≤ w3.heap.size) := q3.size
          clear q3 hcw
          have hbs : b < w3.heap.size := by have := hb'.out; omega
          go_wp2_with (at_builtin; go_must (refine wpList_app _ rfl _ _ 22 rfl BB 5 i0 Try.underlying22 hi hz0 hz1 hz2 a pos c (l0.take pos) rfl (O3.out.below ((Below.refl _ _).alloc (Nat.le_refl _) _)) none 0 0 [] rfl (Bs.nil_ _) ?q1 ?q2 ?_))
          case q1 => have := HO.out.bs.len; have := HB0.out.len; simp only [List.length_take] at *; omega
          case q2 => have := HBr.out; have := S3.out; simp; omega
          intro a4 c4 w4 ho4 hg4
          have D3 := app_below (O3.out.below ((Below.refl _ _).alloc (Nat.le_refl _) (Obj.cells #[Value.int IntKind.i64 1, Value.int IntKind.i64 l0.length] 33))) hg4 (Nat.le_refl _) (by have := HBr.out; have := S3.out; simp; omega)
          have O4 := Lib.hid ho4
          have C4 := Lib.hid (cur_belowB (C3.out.below ((Below.refl _ _).alloc (Nat.le_refl _) _)) D3 hgB.out hacB.out)
          have W4 := Lib.hid ((W3.out.alloc (by omega) _).trans (D3.mono hBw.out))
          have S4 : Hid (BB ≤ w4.heap.size) := by have := D3.size; have := HBr.out; have := S3.out; simp at *; show _ ≤ _; omega
          clear D3 ho4 hg4 hcw3
          go_wp2
          go_roundw
          case rel => exact ⟨k + 1, by omega, by go_num, pos, a4, c4, rfl, O4.out, C4.out, S4.out, W4.out⟩
          case measure => simp [intOf]; omega
      · go_wp2_with fail
        refine (rest_any HC.out).mono ?_
        rintro e w3 ⟨a3, c3, rfl, ho3, q3⟩
        have O3 := Lib.hid (HO.out.below q3)
        have X3 := Lib.hid ho3.bs
        have W3 := Lib.hid (HW.out.trans (q3.mono (Nat.le_trans hBw.out HBr.out)))
        have S3 : Hid (wr.heap.size ≤ w3.heap.size) := q3.size
        clear ho3 q3
        go_wp2_with (at_builtin; go_must (refine wpList_app _ rfl _ _ 22 rfl BB 5 i0 Try.underlying22 hi hz0 hz1 hz2 a pos c (l0.take pos) rfl O3.out a3 (l0.length - pos) c3 _ rfl X3.out ?q1 ?q2 ?_))
        case q1 => have := HB0.out.len; omega
        case q2 => have := HBr.out; have := S3.out; omega
        intro a4 c4 w4 ho4 hg4
        have D3 := app_below O3.out hg4 (Nat.le_refl _) (by have := HBr.out; have := S3.out; omega)
        have X4 := Lib.hid ho4.bs
        have W4 := Lib.hid (W3.out.trans (D3.mono hBw.out))
        clear D3 ho4 hg4
        go_wp2_with fail
        refine (bytes_any X4.out (HB0.out.below W4.out)).mono ?_
        rintro e w5 ⟨rfl, rfl⟩
        rw [eqB_self]
        go_wp2
        go_ret
        exact ⟨rfl, W4.out⟩
  · go_enter Try.func4, Try.ntmps4
    go_wp2_with (first | (go_at_call 8; go_must (refine (HA.out _).mono ?_); rintro e w1 ⟨rfl, q1⟩) | fail)
    all_goals
      go_ret
      exact ⟨rfl, bthen (by assumption) (by assumption)⟩
end Go.Proofs.Ytkjfblhaondnnaa.cursorWhole
