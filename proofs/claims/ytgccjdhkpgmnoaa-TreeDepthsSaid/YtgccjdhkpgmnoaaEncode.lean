/-
  Contracts of the program's Encode.
-/
import Derived.Test.YtgccjdhkpgmnoaaConcat
import Derived.Test.YtgccjdhkpgmnoaaHeadMath
import Derived.Test.YtgccjdhkpgmnoaaLength
namespace Go.Proofs.Ytgccjdhkpgmnoaa
open Go.RowKit

theorem encode_bad {c n : Int} (h : c < 0 ∨ 3 < c ∨ n < 0 ∨ 30 < n) (k : Bool) (s : Value) (w : World) :
    Calls Try.prog 42 #[.int .i64 c, .bool k, .int .i64 n, s] w fun e w' => e = .returned (.tuple #[.slice none 0 0, .int .i64 9]) ∧ w = w' := by
  have H := Lib.hid (fun w => identifier_bad h k w)
  clear h
  go_enter Try.func42, Try.ntmps42
  go_wp2_with (go_at_call 43; go_must (refine (H.out _).mono ?_); rintro e w' ⟨rfl, rfl⟩)
  go_ret2
  exact ⟨rfl, rfl⟩

theorem rows3 {w : World} {t : TypeId} {b : Nat} {s0 s1 s2 : Sl} (hb : Blk w b t #[.slice s0.a s0.n s0.c, .slice s1.a s1.n s1.c, .slice s2.a s2.n s2.c]) (h0 : Bs w s0.a s0.n s0.c s0.l) (h1 : Bs w s1.a s1.n s1.c s1.l) (h2 : Bs w s2.a s2.n s2.c s2.l) : Rows w b [s0, s1, s2] := by
  intro i hi
  match i, hi with
  | 0, _ => exact ⟨hb.cell 0, h0⟩
  | 1, _ => exact ⟨hb.cell 1, h1⟩
  | 2, _ => exact ⟨hb.cell 2, h2⟩

set_option maxHeartbeats 1000000 in
theorem encode_ok {cl nu : Nat} (hc : cl ≤ 3) (hn : nu ≤ 30) (k : Bool) {w : World} {a : Option Addr} {n c : Nat} {l : List UInt8} (hx : Bs w a n c l) (hz : n ≤ 1000000) :
    Calls Try.prog 42 #[.int .i64 cl, .bool k, .int .i64 nu, .slice a n c] w fun e w' => ∃ a' c', e = .returned (.tuple #[.slice a' (encB cl nu k l).length c', .int .i64 0]) ∧ Own w' w.heap.size 5 a' (encB cl nu k l).length c' (encB cl nu k l) ∧ Below w.heap.size w w' := by
  have H := Lib.hid (fun w => identifier_ok hc hn k w)
  have HL := Lib.hid (fun w => length_ok (n := n) (by omega) w)
  have HX := Lib.hid hx
  have hid := Lib.hid (encB_len cl nu k l)
  have hb := lenOct_bd (n := n) (by omega)
  rw [hx.len] at hid
  have he : Hid (encB cl nu k l = [idByte cl nu k] ++ (lenOct n ++ l)) := by show encB cl nu k l = _; unfold encB; rw [hx.len]; rfl
  rw [hid.out, he.out]
  generalize idByte cl nu k = x at *
  generalize lenOct n = o at *
  clear hx hid he
  go_enter Try.func42, Try.ntmps42
  go_wp2_with fail
  refine (H.out _).mono ?_
  rintro e w' ⟨rfl, rfl⟩
  go_wp2_with fail
  refine (HL.out _).mono ?_
  rintro e w1 ⟨a1, c1, rfl, ho, q⟩
  have O1 := Lib.hid ho.bs
  have X1 := Lib.hid (HX.out.below q)
  have B1 := Lib.hid q
  clear ho q HL H HX
  have hbw := B1.out.size
  have L1 := Lib.hid (bs_lit w1 5 #[.int .u8 x.toNat] [x] 1 rfl rfl (by decide))
  have R1 := Lib.hid (rows3 (s0 := ⟨some ⟨w1.heap.size, 0, none⟩, 1, 1, [x]⟩) (s1 := ⟨a1, o.length, c1, o⟩) (s2 := ⟨a, n, c, l⟩) (by simpa using Blk.new (w1.alloc (.cells #[.int .u8 x.toNat] 5)) 22 #[.slice (some ⟨w1.heap.size, 0, none⟩) 1 1, .slice a1 o.length c1, .slice a n c]) (L1.out.alloc _) ((O1.out.alloc _).alloc _) ((X1.out.alloc _).alloc _))
  have ht : Hid (tot [⟨some ⟨w1.heap.size, 0, none⟩, 1, 1, [x]⟩, ⟨a1, o.length, c1, o⟩, ⟨a, n, c, l⟩] = 1 + (o.length + n)) := by show _ = _; simp [tot]
  have hcat : Hid (cat [⟨some ⟨w1.heap.size, 0, none⟩, 1, 1, [x]⟩, ⟨a1, o.length, c1, o⟩, ⟨a, n, c, l⟩] = [x] ++ (o ++ l)) := by show _ = _; simp [cat]
  have HC := Lib.hid (concat_any R1.out (by simp) (by rw [ht.out]; omega) (by simp))
  rw [ht.out, hcat.out] at HC
  clear ht hcat
  go_wp2_with fail
  refine HC.out.mono ?_
  rintro e w2 ⟨a2, c2, rfl, ho, q⟩
  have O2 := Lib.hid (ho.more (B' := w.heap.size) (by simp; omega))
  have B2 := Lib.hid (bthen (bal (bal B1.out _) _) q)
  clear ho q HC
  go_wp2
  go_ret2
  exact ⟨a2, c2, rfl, O2.out, B2.out⟩

end Go.Proofs.Ytgccjdhkpgmnoaa
