/-
  Contract of the reference implementation's cursor: Take, where there are enough bytes.
-/
import Derived.Test.YtkjfblhaondnnaaRefCur
namespace Go.Proofs.Ytkjfblhaondnnaa
open Go.RowKit

theorem cur_belowB {w w' : World} {B : Nat} {t : TypeId} {g : Nat} {a : Option Addr} {l : List UInt8} {pos : Nat} (h : Cur w t g a l pos) (hb : Below B w w') (hg : g < B) (ha : ∀ x, a = some x → x.block < B) : Cur w' t g a l pos := by
  obtain ⟨c, h1, h2, h3⟩ := h
  exact ⟨c, h1.below hb hg, bs_belowB h2 hb ha, h3⟩
theorem only_then_below {a b c : World} {r : Option Nat} {B : Nat} (h : a.grownBy b r) (k : Below B b c) (hB : a.heap.size ≤ B) : a.grownBy c r :=
  ⟨k.os.trans h.os, k.tape.trans h.tape, k.output.trans h.output, Nat.le_trans h.size k.size, fun i hi hn => (k.block i (by omega)).trans (h.block i hi hn)⟩
theorem cur_far {w : World} {t : TypeId} {g : Nat} {a : Option Addr} {l : List UInt8} {pos : Nat} {p : Addr} (hc : Cur w t g a l pos) (hg : g ≠ p.block) (ha : 0 < l.length → ∀ x, a = some x → x.block ≠ p.block) (u : Value) : Cur (w.setCell p u) t g a l pos := by
  obtain ⟨c, h1, h2, h3⟩ := hc
  refine ⟨c, h1.far hg u, ⟨h2.1, h2.2.1, h2.2.2.1, fun hn => ?_⟩, h3⟩
  exact (h2.only (only_setCell (g := p.block) (only_refl _ _) (.inl rfl) u) (ha hn)).2.2.2 hn
theorem bs_one (w : World) (e : TypeId) (x : UInt8) : Bs (w.alloc (Obj.cells #[Value.int .u8 x.toNat] e)) (some ⟨w.heap.size, 0, none⟩) 1 1 [x] := by
  have h := World.ownsRow_lit (e := e) (size := 1) (base := 0) w #[Value.int .u8 x.toNat] 1 (Nat.zero_le _) (by decide) rfl
  exact bs_of_own (l := [x]) h

set_option maxHeartbeats 1000000 in
theorem ref_take_more {w : World} {g : Nat} {a : Option Addr} {l : List UInt8} {pos m : Nat} (h : Cur w 42 g a l pos) (hm : pos + m ≤ l.length) :
    Calls Try.prog 12 #[.pointer (some ⟨g, 0, none⟩), .int .i64 m] w fun e w' => ∃ a' c', e = .returned (.tuple #[.slice a' m c', .agg #[.int .i64 0, .int .i64 0]]) ∧ Own w' w.heap.size 5 a' m c' ((l.drop pos).take m) ∧ Cur w' 42 g a l (pos + m) ∧ w.grownBy w' (some g) := by
  obtain ⟨i0, hi, hz0, hz1, hz2⟩ := info_parts info_u8
  have HC := Lib.hid h
  obtain ⟨c, hb, hs, hne, hp, hz⟩ := h
  have hg := hb.lt
  have hn0 : ¬ (m : Int) < 0 := by omega
  have hn1 : ¬ (l.length : Int) - pos < m := by omega
  have h0 := hb.cell 0
  have h1 := hb.cell 1
  simp only [List.getElem?_toArray, List.getElem?_cons_zero, List.getElem?_cons_succ] at h0 h1
  have RR : Hid (∃ k a' c', k ≤ m ∧ (Value.int .i64 0) = .int .i64 (k : Nat) ∧ (Value.slice none 0 0) = .slice a' k c' ∧ ∀ q, Own ((w.alloc (Obj.cells #[.int .i64 0, .int .i64 0] 33)).drewN q) (w.heap.size + 1) 5 a' k c' ((l.drop pos).take k) ∧ Cur ((w.alloc (Obj.cells #[.int .i64 0, .int .i64 0] 33)).drewN q) 42 g a l (pos + k) ∧ w.grownBy ((w.alloc (Obj.cells #[.int .i64 0, .int .i64 0] 33)).drewN q) (some g) ∧ Blk ((w.alloc (Obj.cells #[.int .i64 0, .int .i64 0] 33)).drewN q) w.heap.size 33 #[.int .i64 0, .int .i64 0]) :=
    ⟨0, none, 0, Nat.zero_le _, rfl, rfl, fun q => ⟨World.ownsRow_nil _ _ _ _, (HC.out.below ((Below.refl _ _).alloc (Nat.le_refl _) _)).drewN q, only_drewN (only_alloc (only_refl _ _) _) _, (Blk.new _ _ _).drewN q⟩⟩
  have hab : Hid (0 < l.length → ∀ x, a = some x → x.block < w.heap.size) := fun hl x hx => by
    obtain ⟨b, off, e, hb, _⟩ := hs.2.2.2 hl
    rw [hx] at e
    injection e with e
    subst e
    exact hb
  clear hb hs hne
  go_enter Try.func12, Try.ntmps12
  go_wp2
  go_quiet (fail)
  go_wp2
  go_loopw [6, 7] (fun v i wr => ∃ k a' c', k ≤ m ∧ i = .int .i64 (k : Nat) ∧ v = .slice a' k c' ∧ Own wr (w.heap.size + 1) 5 a' k c' ((l.drop pos).take k) ∧ Cur wr 42 g a l (pos + k) ∧ w.grownBy wr (some g) ∧ Blk wr w.heap.size 33 #[.int .i64 0, .int .i64 0]) (fun _ i _ => m - (intOf i).toNat)
  case atStart =>
    obtain ⟨k, a', c', h1, h2, h3, h4⟩ := RR.out
    exact ⟨k, a', c', h1, h2, h3, h4 _⟩
  case round =>
    obtain ⟨k, a', c', hk, rfl, rfl, ho, hc, hgr, he⟩ := hrel
    have O := Lib.hid ho
    have C := Lib.hid hc
    have G := Lib.hid hgr
    have E := Lib.hid he
    have hsz : Hid (w.heap.size < wr.heap.size) := he.lt
    clear ho hc hgr he h0 h1 RR HC
    by_cases hlt : k < m
    · obtain ⟨r, hr⟩ : ∃ r, Hid (pos + k = r) := ⟨_, rfl⟩
      rw [hr.out] at C
      have hrl : r < l.length := by have := hr.out; omega
      obtain ⟨cc, hb, hs, hne, hp2, _⟩ := C.out
      obtain ⟨b, off, hkl, rfl, hbl, hcell⟩ := hs.at_ (i := r) hrl
      have hlc := hs.2.1
      have hcm := hs.2.2.1
      unfold maxLen at hcm
      have h0 := hb.cell 0
      have h1 := hb.cell 1
      have hf1 := hb.frozen 1
      simp only [List.getElem?_toArray, List.getElem?_cons_zero, List.getElem?_cons_succ] at h0 h1
      have HS := Lib.hid hs
      have HB := Lib.hid hb
      have HN := Lib.hid hne
      have hp0 : (0 : Int) ≤ (r : Int) := by omega
      have hp1 : (r : Int) < l.length := by omega
      have HX : Hid ((l.drop pos).take (k + 1) = (l.drop pos).take k ++ [l[r]]) := by
        show _ = _
        have e := hr.out
        subst e
        rw [List.take_succ_eq_append_getElem (by simp; omega)]
        simp
      clear hs hb hne
      generalize l[r] = x at *
      go_wp2
      go_region_law (first | (refine step_app _ rfl _ _ 22 rfl (w.heap.size + 1) 5 i0 Try.underlying22 hi hz0 hz1 hz2 a' k c' _ rfl (O.out.below ((Below.refl _ _).alloc (Nat.le_refl _) _).drew) (some ⟨wr.heap.size, 0, none⟩) 1 1 [x] rfl (bs_one wr _ x).drew (by omega) (by have := hsz.out; simp; omega) ?_; intro a2 c2 w2 ho2 hg2))
      all_goals
        have D3 := app_below (O.out.below ((Below.refl _ _).alloc (Nat.le_refl _) (Obj.cells #[Value.int .u8 x.toNat] 5)).drew) hg2 (Nat.le_refl _) (by have := hsz.out; simp; omega)
        have hab' : ∀ y, some (⟨b, off, none⟩ : Addr) = some y → y.block < w.heap.size + 1 := fun y hy => by have := hab.out (by omega) y hy; omega
        have C2 := cur_belowB (C.out.below ((Below.refl _ _).alloc (Nat.le_refl _) (Obj.cells #[Value.int .u8 x.toNat] 5)).drew) D3 (by omega) hab'
        have E2 := Lib.hid (((E.out.alloc (Obj.cells #[Value.int .u8 x.toNat] 5)).drewN 1).below D3 (by omega))
        have G2 := Lib.hid (only_then_below (only_drewN (only_alloc G.out (Obj.cells #[Value.int .u8 x.toNat] 5)) 1) D3 (by omega))
        rw [← HX.out] at ho2
        have O2 := Lib.hid ho2
        clear ho2 hg2 D3 h0 h1 hf1 hcell
        have hC2 := Lib.hid C2
        obtain ⟨cc2, hb2, _⟩ := C2
        have h1 := hb2.cell 1
        have hf1 := hb2.frozen 1
        simp only [List.getElem?_toArray, List.getElem?_cons_zero, List.getElem?_cons_succ] at h1
        clear hb2
        go_wp2
        go_roundw
        case rel =>
          obtain ⟨cc3, hb3, hs3, hne3, _, hz3⟩ := hC2.out
          have hr1 := hr.out
          have hng : ∀ y, a2 = some y → y.block ≠ g := fun y hy => by have := (O2.out.base y hy).1; omega
          refine ⟨k + 1, a2, c2, by omega, by go_num, rfl, O2.out.far (p := ⟨g, 1, none⟩) hng _, ⟨cc3, ?_, hs3.only (only_setCell (only_refl _ _) (.inl rfl) _) hne3, hne3, by omega, hz3⟩, only_setCell G2.out (.inl rfl) _, E2.out.far (by simp; omega) _⟩
          have hb4 := hb3.set_ 1 (.int .i64 (r + 1))
          have e1 : pos + (k + 1) = r + 1 := by omega
          rw [e1]
          exact hb4
        case measure => simp [intOf]; omega
    · have e0 := E.out.cell 0
      have e1 := E.out.cell 1
      have ef0 := E.out.frozen 0
      have ef1 := E.out.frozen 1
      simp only [List.getElem?_toArray, List.getElem?_cons_zero, List.getElem?_cons_succ] at e0 e1
      have hkm : k = m := by omega
      subst hkm
      go_wp2
      have hng : ∀ y, a' = some y → y.block ≠ w.heap.size := fun y hy => by have := (O.out.base y hy).1; omega
      exact bodyPost_ret (v := .tuple #[.slice a' k c', .agg #[.int .i64 0, .int .i64 0]]) (by simp [results, Try.results12, go_sem, e0, e1]) rfl
        ⟨a', c', rfl, ((O.out.more (by omega)).far hng _).far hng _, cur_far (cur_far C.out (by simp; omega) (fun h x hx => by have := hab.out h x hx; simp; omega) _) (by simp; omega) (fun h x hx => by have := hab.out h x hx; simp; omega) _, only_setCell (only_setCell G.out (.inr (Nat.le_refl _)) _) (.inr (Nat.le_refl _)) _⟩
end Go.Proofs.Ytkjfblhaondnnaa
