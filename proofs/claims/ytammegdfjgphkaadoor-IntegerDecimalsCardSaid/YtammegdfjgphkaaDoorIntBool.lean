/-
  Contracts: Boolean, FromBoolean, Null, of the program; Boolean of the reference.
-/
import Derived.Test.YtammegdfjgphkaaDoorIntUns
namespace Go.Proofs.YtammegdfjgphkaaDoor
open Go.RowKit

def boV (l : List UInt8) : Bool := decide (l = [255])
def boC (l : List UInt8) : Int := if l = [0] ∨ l = [255] then 0 else 6
def boB (v : Bool) : List UInt8 := if v = true then [255] else [0]

theorem fromBoolean_any (v : Bool) (w : World) : Calls Tryd.prog 12 #[.bool v] w fun e w' => ∃ a, e = .returned (.slice a 1 1) ∧ Bs w' a 1 1 (boB v) ∧ Below w.heap.size w w' := by
  cases v
  · go_enter Tryd.func12, Tryd.ntmps12
    go_wp2
    go_ret
    exact ⟨_, rfl, bs_lit w _ _ [0] 1 rfl rfl (by decide), bal (Below.refl _ _) _⟩
  · go_enter Tryd.func12, Tryd.ntmps12
    go_wp2
    go_ret
    exact ⟨_, rfl, bs_lit w _ _ [255] 1 rfl rfl (by decide), bal (Below.refl _ _) _⟩
theorem null_any {w : World} {a : Option Addr} {n c : Nat} : Calls Tryd.prog 13 #[.slice a n c] w fun e w' => e = .returned (.int .i64 (if 0 < n then 6 else 0)) ∧ w = w' := by
  by_cases h : 0 < n
  · have h' : 0 < (n : Int) := by omega
    rw [if_pos h]
    go_enter Tryd.func13, Tryd.ntmps13
    go_wp2
    go_ret
    exact ⟨rfl, rfl⟩
  · have h' : ¬ 0 < (n : Int) := by omega
    rw [if_neg h]
    go_enter Tryd.func13, Tryd.ntmps13
    go_wp2
    go_ret
    exact ⟨rfl, rfl⟩
/-- bytes.Equal -/
theorem equal_any {w : World} {a b : Option Addr} {n c m d : Nat} {xs ys : List UInt8} (hx : Bs w a n c xs) (hy : Bs w b m d ys) :
    Calls Tryd.prog 33 #[.slice a n c, .slice b m d] w fun e w' => e = .returned (.bool (eqB xs ys)) ∧ w = w' := by
  have c1 := fun dst hd => hx.conv (P := Tryd.prog) (dst := dst) Tryd.underlying22 Tryd.underlying5 hd
  have c2 := fun dst hd => hy.conv (P := Tryd.prog) (dst := dst) Tryd.underlying22 Tryd.underlying5 hd
  have k1 := c1 9 Tryd.underlying9
  have k2 := c2 9 Tryd.underlying9
  clear c1 c2 hx hy
  go_enter Tryd.func33, Tryd.ntmps33
  go_wp2
  go_ret
  exact ⟨by rw [eqB_beq]; rfl, rfl⟩

theorem bo_false : boV [0] = false ∧ boC [0] = 0 := by decide
theorem bo_true : boV [255] = true ∧ boC [255] = 0 := by decide
theorem bo_other {l : List UInt8} (h0 : eqB l [0] = false) (h1 : eqB l [255] = false) : boV l = false ∧ boC l = 6 := by
  have e0 : l ≠ [0] := by simpa [eqB] using h0
  have e1 : l ≠ [255] := by simpa [eqB] using h1
  simp [boV, boC, e0, e1]

set_option maxHeartbeats 1000000 in
theorem boolean_any {w : World} {a : Option Addr} {n c : Nat} {l : List UInt8} (h : Bs w a n c l) :
    Calls Tryd.prog 10 #[.slice a n c] w fun e w' => e = .returned (.tuple #[.bool (boV l), .int .i64 (boC l)]) ∧ Below w.heap.size w w' := by
  have HX := Lib.hid h
  have HC := Lib.hid (Blk.new w 4 #[.bool false, .bool true])
  have HB0 := Lib.hid (bal (Below.refl _ w) (.cells #[.bool false, .bool true] 4))
  clear h
  obtain ⟨w1, hw1⟩ : ∃ w1, w.alloc (.cells #[.bool false, .bool true] 4) = w1 := ⟨_, rfl⟩
  obtain ⟨g, hg⟩ : ∃ g, w.heap.size = g := ⟨_, rfl⟩
  rw [hw1, hg] at HC
  rw [hw1] at HB0
  go_enter Tryd.func10, Tryd.ntmps10
  go_wp2
  go_loopw [8] (fun i wr => Below w.heap.size w wr ∧ Blk wr g 4 #[.bool false, .bool true] ∧ (i = .int .i64 0 ∨ (i = .int .i64 1 ∧ eqB l [0] = false) ∨ (i = .int .i64 2 ∧ eqB l [0] = false ∧ eqB l [255] = false))) (fun i _ => 2 - (intOf i).toNat)
  case atStart => exact ⟨HB0.out, HC.out, .inl rfl⟩
  case round =>
    obtain ⟨hb, hc, hi⟩ := hrel
    have HB := Lib.hid hb
    have HK := Lib.hid hc
    have z0 := hc.cell 0
    have z1 := hc.cell 1
    have hgl := hc.lt
    simp only [List.getElem?_toArray, List.getElem?_cons_zero, List.getElem?_cons_succ] at z0 z1
    clear hb hc
    rcases hi with rfl | ⟨rfl, h0⟩ | ⟨rfl, h0, h1⟩
    · rcases he : eqB l [0] with _ | _
      · have HE := Lib.hid he
        clear he
        go_wp2_with (first | (go_at_call 12; go_must (refine (fromBoolean_any false _).mono ?_); rintro e w2 ⟨a2, rfl, hb2, q2⟩) | (go_at_call 33; go_must (refine (equal_any (HX.out.below (bthen HB.out q2)) hb2).mono ?_); rintro e w3 ⟨rfl, rfl⟩; rw [show boB false = [0] from rfl, HE.out]))
        go_roundw
        case rel => exact ⟨bthen HB.out q2, HK.out.below q2 hgl, .inr (.inl ⟨rfl, by simp⟩)⟩
        case measure => simp [intOf]
      · have HE := Lib.hid he
        have e := eqB_iff.1 he
        subst e
        clear he
        go_wp2_with (first | (go_at_call 12; go_must (refine (fromBoolean_any false _).mono ?_); rintro e w2 ⟨a2, rfl, hb2, q2⟩) | (go_at_call 33; go_must (refine (equal_any (HX.out.below (bthen HB.out q2)) hb2).mono ?_); rintro e w3 ⟨rfl, rfl⟩; rw [show boB false = [0] from rfl, HE.out]))
        go_ret2
        exact ⟨rfl, bthen HB.out q2⟩
    · rcases he : eqB l [255] with _ | _
      · have HE := Lib.hid he
        have HE0 := Lib.hid h0
        clear he h0
        go_wp2_with (first | (go_at_call 12; go_must (refine (fromBoolean_any true _).mono ?_); rintro e w2 ⟨a2, rfl, hb2, q2⟩) | (go_at_call 33; go_must (refine (equal_any (HX.out.below (bthen HB.out q2)) hb2).mono ?_); rintro e w3 ⟨rfl, rfl⟩; rw [show boB true = [255] from rfl, HE.out]))
        go_roundw
        case rel => exact ⟨bthen HB.out q2, HK.out.below q2 hgl, .inr (.inr ⟨rfl, by simp [HE0.out], by simp⟩)⟩
        case measure => simp [intOf]
      · have HE := Lib.hid he
        have e := eqB_iff.1 he
        subst e
        clear he h0
        go_wp2_with (first | (go_at_call 12; go_must (refine (fromBoolean_any true _).mono ?_); rintro e w2 ⟨a2, rfl, hb2, q2⟩) | (go_at_call 33; go_must (refine (equal_any (HX.out.below (bthen HB.out q2)) hb2).mono ?_); rintro e w3 ⟨rfl, rfl⟩; rw [show boB true = [255] from rfl, HE.out]))
        go_ret2
        exact ⟨rfl, bthen HB.out q2⟩
    · have HE := Lib.hid (bo_other h0 h1)
      clear h0 h1
      go_wp2
      go_ret2
      exact ⟨by rw [HE.out.1, HE.out.2]; rfl, HB.out⟩

theorem ref_boolean_any {w : World} {a : Option Addr} {n c : Nat} {l : List UInt8} (h : Bs w a n c l) :
    Calls Tryd.prog 11 #[.slice a n c] w fun e w' => e = .returned (.tuple #[.bool (boV l), .int .i64 (boC l)]) ∧ w = w' := by
  have hl := h.len
  by_cases hn : n = 1
  · subst hn
    rcases l with _ | ⟨x, _ | ⟨y, r⟩⟩
    · simp at hl
    · obtain ⟨b, off, _, rfl, _, hc0⟩ := h.at_ (i := 0) (by omega)
      simp only [List.getElem_cons_zero, Nat.add_zero] at hc0
      clear h hl
      by_cases h0 : x = 0
      · subst h0
        rw [bo_false.1, bo_false.2]
        have e0 : (((0 : UInt8).toNat : Nat) : Int) = 0 := rfl
        rw [e0] at hc0
        go_enter Tryd.func11, Tryd.ntmps11
        go_wp2
        go_ret2
        exact ⟨rfl, rfl⟩
      · have hx0 : ((x.toNat : Int) == 0) = false := by
          rw [beq_eq_false_iff_ne]
          intro e
          exact h0 (UInt8.toNat_inj.1 (by simpa using e))
        by_cases h1 : x = 255
        · subst h1
          rw [bo_true.1, bo_true.2]
          have e0 : (((255 : UInt8).toNat : Nat) : Int) = 255 := rfl
          rw [e0] at hc0 hx0
          go_enter Tryd.func11, Tryd.ntmps11
          go_wp2
          go_ret2
          exact ⟨rfl, rfl⟩
        · have hx1 : ((x.toNat : Int) == 255) = false := by
            rw [beq_eq_false_iff_ne]
            intro e
            exact h1 (UInt8.toNat_inj.1 (by show _ = 255; omega))
          have e := bo_other (l := [x]) (by simp [eqB, h0]) (by simp [eqB, h1])
          rw [e.1, e.2]
          clear e
          go_enter Tryd.func11, Tryd.ntmps11
          go_wp2
          go_ret2
          exact ⟨rfl, rfl⟩
    · simp at hl
  · have e := bo_other (l := l) (by simp [eqB]; rintro rfl; simp at hl; omega) (by simp [eqB]; rintro rfl; simp at hl; omega)
    rw [e.1, e.2]
    have hn1 : ((n : Int) == 1) = false := by simp; omega
    clear h hl e
    go_enter Tryd.func11, Tryd.ntmps11
    go_wp2
    go_ret2
    exact ⟨rfl, rfl⟩
end Go.Proofs.YtammegdfjgphkaaDoor
