/-
  The walk of the law TlvCopies.
-/
import Derived.Test.YtepdgaokaneflaaAwakeTlv
import Derived.Test.YtepdgaokaneflaaTlvMath
import Derived.Test.YtepdgaokaneflaaNextRef
namespace Go.Proofs.Ytepdgaokaneflaa.tlvCopies
open Go.RowKit

/-- an own slice is written, and nothing else but new blocks -/
def Rel (w : World) (B : Nat) (a : Option Addr) (n c : Nat) (wr : World) : Prop :=
  (∃ l, Own wr B 5 a n c l) ∧ w.grownBy wr (Value.ownBlock (.slice a n c))
theorem rel_set {w wr : World} {B g n c k : Nat} {l : List UInt8} (O : Own wr B 5 (some ⟨g, 0, none⟩) n c l) (G : w.grownBy wr (Value.ownBlock (.slice (some ⟨g, 0, none⟩) n c))) (y : UInt8) :
    Rel w B (some ⟨g, 0, none⟩) n c (wr.setCell ⟨g, k, none⟩ (.int .u8 y.toNat)) :=
  ⟨⟨_, O.stored k y⟩, only_setCell (g := g) (p := ⟨g, k, none⟩) G (.inl rfl) _⟩
/-- what lies in other blocks stays -/
theorem own_other {w wr : World} {B n c n' c' : Nat} {a a' : Option Addr} {l : List UInt8} (O : Own w B 5 a n c l) (G : w.grownBy wr (Value.ownBlock (.slice a' n' c'))) (h : ∀ x y, a = some x → a' = some y → x.block ≠ y.block) : Own wr B 5 a n c l :=
  O.keep fun x hx => G.block _ (O.base x hx).2 (fun e => by
    cases a' with
    | none => simp [Value.ownBlock] at e
    | some y => simp [Value.ownBlock] at e; exact h x y hx rfl e)
theorem blk_other {w wr : World} {g t n c : Nat} {a : Option Addr} {cs : Array Value} (O : Blk w g t cs) (G : w.grownBy wr (Value.ownBlock (.slice a n c))) (h : ∀ y, a = some y → g ≠ y.block) : Blk wr g t cs :=
  O.keep (G.block g O.lt (fun e => by
    cases a with
    | none => simp [Value.ownBlock] at e
    | some y => simp [Value.ownBlock] at e; exact h y rfl e))
theorem below_other {w0 w wr : World} {B n c : Nat} {a : Option Addr} (Q : Below B w0 w) (G : w.grownBy wr (Value.ownBlock (.slice a n c))) (hB : B ≤ w.heap.size) (h : ∀ y, a = some y → B ≤ y.block) : Below B w0 wr :=
  Q.grown G hB (fun k hk => by
    cases a with
    | none => simp [Value.ownBlock] at hk
    | some y => simp [Value.ownBlock] at hk; have := h y rfl; omega)

set_option maxRecDepth 100000 in
set_option maxHeartbeats 2000000 in
theorem walk {w : World} {a0 : Option Addr} {n0 c0 : Nat} {l0 : List UInt8} (b0 : Bs w a0 n0 c0 l0) :
    Calls Try.prog 9 #[.slice a0 n0 c0] w fun e w' => e = .returned (.bool true) ∧ Below w.heap.size w w' := by
  have HA := Lib.hid (awakeTlv_any)
  have HB0 := Lib.hid b0
  by_cases h0 : n0 ≤ 2000
  · have HR1 := Lib.hid (fun w a c (h : Bs w a n0 c l0) => next_any h (by omega))
    have HR2 := Lib.hid (fun W (h : Below w.heap.size w W) => ref_next_from b0 h (by omega))
    have hlen := next_lens l0
    rw [b0.len] at hlen
    unfold NextPost hdV erV at HR1
    unfold RefNextFrom hdV erV at HR2
    generalize rdNext l0 = q at *
    obtain ⟨⟨g1, g2, g3, g4, g5, g6, g7⟩, cont, rest⟩ := q
    simp only at HR1 HR2 hlen
    obtain ⟨m, hm⟩ : ∃ m, Hid (cont.length = m) := ⟨_, rfl⟩
    have hmb : (m : Int) ≤ 2000 := by have := hm.out; omega
    rw [hm.out] at HR2
    obtain ⟨i0, hi, hz0, hz1, hz2⟩ := info_parts info_u8
    clear b0 hlen
    go_enter Try.func9, Try.ntmps9
    go_wp2_with fail
    refine (HA.out _).mono ?_
    rintro e w1 ⟨rfl, q1⟩
    have Q1 := Lib.hid q1
    clear q1
    have hs1 := Q1.out.size
    go_wp2_with (at_builtin; go_must (refine wpList_app _ rfl _ _ 30 rfl w1.heap.size 5 i0 Try.underlying30 hi hz0 hz1 hz2 (some ⟨w1.heap.size, 0, none⟩) 0 0 [] rfl (own_made w1 _) a0 n0 c0 l0 rfl ((HB0.out.below Q1.out).alloc _) ?c1 ?c2 ?_))
    case c1 => omega
    case c2 => simp
    intro a2 c2 w2 ho2 hg2
    have D2 : Hid (Below w1.heap.size w1 w2) := (bal (Below.refl _ _) _).trans (app_below (own_made w1 _) hg2 (Nat.le_refl _) (by simp))
    have O2 := Lib.hid ho2
    have Q2 := Lib.hid (bthen Q1.out D2.out)
    have N2 : Hid (∀ x, a2 = some x → w.heap.size ≤ x.block ∧ x.block < w2.heap.size) := fun x hx => by have := ho2.base x hx; omega
    clear ho2 hg2 D2
    go_wp2_with fail
    refine (HR1.out _ _ _ O2.out.bs).mono ?_
    rintro e w3 ⟨a5, c5, a6, c6, rfl, ho5, ho6, hne, q⟩
    rw [hm.out] at ho5 ⊢
    have hs23 := q.size
    have O3 := Lib.hid (((O2.out.below q).below (bal (Below.refl _ _) (.cells #[.int .i64 g1, .int .i64 g2, .bool g3, .int .i64 g4, .int .i64 g5] 40))).below (bal (Below.refl _ _) (.cells #[.int .i64 g6, .int .i64 g7] 35)))
    have C3 := Lib.hid ((ho5.below (bal (Below.refl _ _) (.cells #[.int .i64 g1, .int .i64 g2, .bool g3, .int .i64 g4, .int .i64 g5] 40))).below (bal (Below.refl _ _) (.cells #[.int .i64 g6, .int .i64 g7] 35)))
    have D3 := Lib.hid ((ho6.below (bal (Below.refl _ _) (.cells #[.int .i64 g1, .int .i64 g2, .bool g3, .int .i64 g4, .int .i64 g5] 40))).below (bal (Below.refl _ _) (.cells #[.int .i64 g6, .int .i64 g7] 35)))
    have E3' := Blk.new (w3.alloc (.cells #[.int .i64 g1, .int .i64 g2, .bool g3, .int .i64 g4, .int .i64 g5] 40)) 35 #[.int .i64 g6, .int .i64 g7]
    rw [World.size_alloc] at E3'
    have E3 := Lib.hid E3'
    have NE := Lib.hid hne
    have Q3 := Lib.hid (bal (bal (bthen Q2.out q) (.cells #[.int .i64 g1, .int .i64 g2, .bool g3, .int .i64 g4, .int .i64 g5] 40)) (.cells #[.int .i64 g6, .int .i64 g7] 35))
    have N5 : Hid (∀ x y, a5 = some x → a2 = some y → x.block ≠ y.block) := fun x y hx hy => by have := (ho5.base x hx).1; have := (N2.out y hy).2; omega
    have N6 : Hid (∀ x y, a6 = some x → a2 = some y → x.block ≠ y.block) := fun x y hx hy => by have := (ho6.base x hx).1; have := (N2.out y hy).2; omega
    have NEr : Hid (∀ y, a2 = some y → w3.heap.size + 1 ≠ y.block) := fun y hy => by have := (N2.out y hy).2; omega
    have M5 : Hid (∀ x, a5 = some x → w.heap.size ≤ x.block ∧ x.block < w3.heap.size) := fun x hx => by have := ho5.base x hx; have := Q2.out.size; omega
    have M6 : Hid (∀ x, a6 = some x → w.heap.size ≤ x.block ∧ x.block < w3.heap.size) := fun x hx => by have := ho6.base x hx; have := Q2.out.size; omega
    clear q hs23 HR1 O2 Q2 ho5 ho6 E3' hne
    go_wp2_with fail
    refine (bytes_any O3.out.bs (HB0.out.below Q3.out)).mono ?_
    rintro e w4 ⟨rfl, rfl⟩
    rw [eqB_self]
    generalize ((w3.alloc (.cells #[.int .i64 g1, .int .i64 g2, .bool g3, .int .i64 g4, .int .i64 g5] 40)).alloc (.cells #[.int .i64 g6, .int .i64 g7] 35)) = W3 at *
    obtain ⟨EE, hEE⟩ : ∃ EE, Hid (w3.heap.size + 1 = EE) := ⟨_, rfl⟩
    rw [hEE.out] at E3 NEr
    have hsW := Q3.out.size
    have hn0 : (n0 : Int) ≤ 2000 := by omega
    go_wp2_with fail
    rw [hEE.out]
    go_loopw [8] (fun i wr => ∃ k : Nat, k ≤ n0 ∧ i = .int .i64 k ∧ Rel W3 w1.heap.size a2 n0 c2 wr) (fun i _ => n0 - (intOf i).toNat)
    case atStart => exact ⟨0, Nat.zero_le _, rfl, ⟨_, O3.out⟩, only_refl _ _⟩
    case round =>
      obtain ⟨k, hk, rfl, ⟨l, ho⟩, hg⟩ := hrel
      have O := Lib.hid ho
      have G := Lib.hid hg
      clear ho hg
      by_cases hlt : k < n0
      · obtain ⟨gb, rfl, hgb, hgb2⟩ := O.out.pos (by omega)
        have hl := O.out.bs.len
        have hc := O.out.cell (j := k) (by omega)
        have hf := O.out.frozen k
        obtain ⟨x, ex⟩ : ∃ x, l[k]'(by omega) = x := ⟨_, rfl⟩
        rw [ex] at hc
        clear ex hl
        go_wp2
        rw [inc_byte x]
        refine ⟨⟨k + 1, by omega, by go_num, rel_set O.out G.out _⟩, by simp [intOf]; omega⟩
      · have C4 := Lib.hid (own_other C3.out G.out N5.out)
        have D4 := Lib.hid (own_other D3.out G.out N6.out)
        have E4 := Lib.hid (blk_other E3.out G.out NEr.out)
        have Q4 := Lib.hid (below_other Q3.out G.out hsW (fun y hy => (N2.out y hy).1))
        clear C3 D3 E3 Q3 O3 O G hsW hk
        go_wp2_with fail
        refine (HR2.out _ Q4.out).mono ?_
        rintro e w5 ⟨a7, c7, a8, c8, rfl, ho7, ho8, q⟩
        have C5 := Lib.hid (((C4.out.below q).below (bal (Below.refl _ _) (.cells #[.int .i64 g1, .int .i64 g2, .bool g3, .int .i64 g4, .int .i64 g5] 40))).below (bal (Below.refl _ _) (.cells #[.int .i64 g6, .int .i64 g7] 35)))
        have D5 := Lib.hid (((D4.out.below q).below (bal (Below.refl _ _) (.cells #[.int .i64 g1, .int .i64 g2, .bool g3, .int .i64 g4, .int .i64 g5] 40))).below (bal (Below.refl _ _) (.cells #[.int .i64 g6, .int .i64 g7] 35)))
        obtain ⟨e0, e1⟩ : w5.cell? ⟨EE, 0, none⟩ = some (.int .i64 g6) ∧ w5.cell? ⟨EE, 1, none⟩ = some (.int .i64 g7) := ⟨(E4.out.below q E4.out.lt).cell 0, (E4.out.below q E4.out.lt).cell 1⟩
        have el : EE < w5.heap.size := (E4.out.below q E4.out.lt).lt
        have Q5 := Lib.hid (bal (bal (bthen Q4.out q) (.cells #[.int .i64 g1, .int .i64 g2, .bool g3, .int .i64 g4, .int .i64 g5] 40)) (.cells #[.int .i64 g6, .int .i64 g7] 35))
        have F5 := Lib.hid ho7
        have L5 := Lib.hid ho8
        clear q ho7 ho8 C4 D4 E4 Q4 HR2
        go_wp2_with fail
        refine (bytes_any C5.out.bs (F5.out.below Q5.out)).mono ?_
        rintro e w6 ⟨rfl, rfl⟩
        rw [eqB_self]
        go_wp2_with fail
        refine (bytes_any D5.out.bs (L5.out.below Q5.out)).mono ?_
        rintro e w6 ⟨rfl, rfl⟩
        rw [eqB_self]
        clear F5
        have hsW := Q5.out.size
        generalize ((w5.alloc (.cells #[.int .i64 g1, .int .i64 g2, .bool g3, .int .i64 g4, .int .i64 g5] 40)).alloc (.cells #[.int .i64 g6, .int .i64 g7] 35)) = W5 at *
        go_wp2_with fail
        go_loopw [13] (fun i wr' => ∃ k : Nat, k ≤ m ∧ i = .int .i64 k ∧ Rel W5 w2.heap.size a5 m c5 wr') (fun i _ => m - (intOf i).toNat)
        case atStart => exact ⟨0, Nat.zero_le _, rfl, ⟨_, C5.out⟩, only_refl _ _⟩
        case round =>
          obtain ⟨k2, hk2, rfl, ⟨l2, ho⟩, hg⟩ := hrel
          have O := Lib.hid ho
          have G := Lib.hid hg
          clear ho hg e0 e1 el
          by_cases hlt2 : k2 < m
          · obtain ⟨gb, rfl, hgb, hgb2⟩ := O.out.pos (by omega)
            have hl := O.out.bs.len
            have hc := O.out.cell (j := k2) (by omega)
            have hf := O.out.frozen k2
            obtain ⟨x, ex⟩ : ∃ x, l2[k2]'(by omega) = x := ⟨_, rfl⟩
            rw [ex] at hc
            clear ex hl
            go_wp2
            rw [inc_byte x]
            refine ⟨⟨k2 + 1, by omega, by go_num, rel_set O.out G.out _⟩, by simp [intOf]; omega⟩
          · have D6 := Lib.hid (own_other D5.out G.out (fun x y hx hy => (NE.out y x hy hx).symm))
            have Q6 := Lib.hid (below_other Q5.out G.out hsW (fun y hy => (M5.out y hy).1))
            clear D5 Q5 C5 O G hsW hk2
            go_wp2_with fail
            refine (bytes_any D6.out.bs (L5.out.below Q6.out)).mono ?_
            rintro e w7 ⟨rfl, rfl⟩
            rw [eqB_self]
            go_wp2_with fail
            go_ret
            exact ⟨rfl, Q6.out⟩
  · clear b0
    go_enter Try.func9, Try.ntmps9
    go_wp2_with (first | (go_at_call 10; go_must (refine (HA.out _).mono ?_); rintro e w1 ⟨rfl, q1⟩) | fail)
    all_goals
      go_ret
      exact ⟨rfl, bthen (by assumption) (by assumption)⟩
end Go.Proofs.Ytepdgaokaneflaa.tlvCopies
