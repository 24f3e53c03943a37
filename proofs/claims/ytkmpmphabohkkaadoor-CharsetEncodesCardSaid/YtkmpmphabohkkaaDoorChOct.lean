/-
  Contracts of the reference's Octets, width and has.
-/
import Derived.Test.YtkmpmphabohkkaaDoorChMath2
import Derived.Test.YtkmpmphabohkkaaDoorInfoU8
import Derived.Test.YtkmpmphabohkkaaDoorLit
import Derived.BigQuiet
namespace Go.Proofs.YtkmpmphabohkkaaDoor
open Go.RowKit

theorem lit1 {w : World} (a : UInt8) : Own (w.alloc (.cells #[.int .u8 a.toNat] 5)) w.heap.size 5 (some ⟨w.heap.size, 0, none⟩) 1 1 [a] := own_lit _ _ _ 1 rfl rfl (by decide) (Nat.le_refl _)
theorem lit2 {w : World} (a b : UInt8) : Own (w.alloc (.cells #[.int .u8 a.toNat, .int .u8 b.toNat] 5)) w.heap.size 5 (some ⟨w.heap.size, 0, none⟩) 2 2 [a, b] := own_lit _ _ _ 2 rfl rfl (by decide) (Nat.le_refl _)
theorem lit3 {w : World} (a b c : UInt8) : Own (w.alloc (.cells #[.int .u8 a.toNat, .int .u8 b.toNat, .int .u8 c.toNat] 5)) w.heap.size 5 (some ⟨w.heap.size, 0, none⟩) 3 3 [a, b, c] := own_lit _ _ _ 3 rfl rfl (by decide) (Nat.le_refl _)
theorem lit4 {w : World} (a b c d : UInt8) : Own (w.alloc (.cells #[.int .u8 a.toNat, .int .u8 b.toNat, .int .u8 c.toNat, .int .u8 d.toNat] 5)) w.heap.size 5 (some ⟨w.heap.size, 0, none⟩) 4 4 [a, b, c, d] := own_lit _ _ _ 4 rfl rfl (by decide) (Nat.le_refl _)
theorem by8_int {n : Nat} {z : Int} (h : n < 256) (e : z = n) : z = ((by8 n).toNat : Int) := by rw [by8_nat h, e]

set_option maxRecDepth 100000 in
set_option maxHeartbeats 2000000 in
theorem octets_any (x : Nat) (hx : x ≤ 100000000) (w : World) :
    Calls Tryd.prog 32 #[.int .i64 x] w fun e w' => ∃ a c, e = .returned (.slice a (u8O x).length c) ∧ Own w' w.heap.size 5 a (u8O x).length c (u8O x) ∧ Below w.heap.size w w' := by
  have h0 : ¬ (x : Int) < 0 := by omega
  have hx2 : (x : Int) ≤ 100000000 := by omega
  rcases hs : scal x with _ | _
  · rw [u8O_no hs]
    have hn : ¬ (x ≤ 1114111 ∧ ¬ (55296 ≤ x ∧ x < 57344)) := by rw [← scal_true, hs]; decide
    by_cases h1 : 1114111 < x
    · have h1' : (1114111 : Int) < x := by omega
      go_enter Tryd.func32, Tryd.ntmps32
      go_wp2_with fail
      go_ret
      exact ⟨none, 0, rfl, World.ownsRow_nil _ _ _ _, Below.refl _ _⟩
    · have h1' : ¬ (1114111 : Int) < x := by omega
      have h2 : (55296 : Int) ≤ x := by omega
      have h3 : (x : Int) < 57344 := by omega
      go_enter Tryd.func32, Tryd.ntmps32
      go_wp2_with fail
      go_ret
      exact ⟨none, 0, rfl, World.ownsRow_nil _ _ _ _, Below.refl _ _⟩
  · have hb := scal_true.1 hs
    have h1' : ¬ (1114111 : Int) < x := by omega
    have hq : (55296 : Int) ≤ x → ¬ (x : Int) < 57344 := by omega
    by_cases h1 : x < 128
    · rw [u8O_1 hs h1]
      have e0 := by8_int (n := x) (z := (x : Int)) (by omega) rfl
      have h1i : (x : Int) < 128 := by omega
      have h2i : ¬ (55296 : Int) ≤ x := by omega
      generalize by8 x = b0 at *
      go_enter Tryd.func32, Tryd.ntmps32
      go_wp2_with fail
      go_ret
      exact ⟨_, 1, rfl, lit1 b0, bal (Below.refl _ _) _⟩
    · have h1i : ¬ (x : Int) < 128 := by omega
      by_cases h2 : x < 2048
      · rw [u8O_2 hs h1 h2]
        have e0 := by8_int (n := 192 + x / 64) (z := 192 + (x : Int) / 64) (by omega) (by omega)
        have e1 := by8_int (n := 128 + x % 64) (z := 128 + (x : Int) % 64) (by omega) (by omega)
        have h2i : (x : Int) < 2048 := by omega
        have h3i : ¬ (55296 : Int) ≤ x := by omega
        generalize by8 (192 + x / 64) = b0 at *
        generalize by8 (128 + x % 64) = b1 at *
        have y0 := byte_bd b0
        have y1 := byte_bd b1
        go_enter Tryd.func32, Tryd.ntmps32
        go_wp2_with fail
        go_ret
        exact ⟨_, 2, rfl, lit2 b0 b1, bal (Below.refl _ _) _⟩
      · have h2i : ¬ (x : Int) < 2048 := by omega
        by_cases h3 : x < 65536
        · rw [u8O_3 hs h2 h3]
          have e0 := by8_int (n := 224 + x / 4096) (z := 224 + (x : Int) / 4096) (by omega) (by omega)
          have e1 := by8_int (n := 128 + x / 64 % 64) (z := 128 + (x : Int) / 64 % 64) (by omega) (by omega)
          have e2 := by8_int (n := 128 + x % 64) (z := 128 + (x : Int) % 64) (by omega) (by omega)
          have h3i : (x : Int) < 65536 := by omega
          generalize by8 (224 + x / 4096) = b0 at *
          generalize by8 (128 + x / 64 % 64) = b1 at *
          generalize by8 (128 + x % 64) = b2 at *
          have y0 := byte_bd b0
          have y1 := byte_bd b1
          have y2 := byte_bd b2
          by_cases hs5 : (55296 : Int) ≤ x
          · have hs6 := hq hs5
            go_enter Tryd.func32, Tryd.ntmps32
            go_wp2_with fail
            go_ret
            exact ⟨_, 3, rfl, lit3 b0 b1 b2, bal (Below.refl _ _) _⟩
          · go_enter Tryd.func32, Tryd.ntmps32
            go_wp2_with fail
            go_ret
            exact ⟨_, 3, rfl, lit3 b0 b1 b2, bal (Below.refl _ _) _⟩
        · rw [u8O_4 hs h3]
          have e0 := by8_int (n := 240 + x / 262144) (z := 240 + (x : Int) / 262144) (by omega) (by omega)
          have e1 := by8_int (n := 128 + x / 4096 % 64) (z := 128 + (x : Int) / 4096 % 64) (by omega) (by omega)
          have e2 := by8_int (n := 128 + x / 64 % 64) (z := 128 + (x : Int) / 64 % 64) (by omega) (by omega)
          have e3 := by8_int (n := 128 + x % 64) (z := 128 + (x : Int) % 64) (by omega) (by omega)
          have h3i : ¬ (x : Int) < 65536 := by omega
          have h4i : ¬ (x : Int) < 57344 := by omega
          have h5i : (55296 : Int) ≤ x := by omega
          have h6i : ¬ (x : Int) < 2048 := by omega
          generalize by8 (240 + x / 262144) = b0 at *
          generalize by8 (128 + x / 4096 % 64) = b1 at *
          generalize by8 (128 + x / 64 % 64) = b2 at *
          generalize by8 (128 + x % 64) = b3 at *
          have y0 := byte_bd b0
          have y1 := byte_bd b1
          have y2 := byte_bd b2
          have y3 := byte_bd b3
          obtain ⟨d, hd⟩ : ∃ d : Int, (x : Int) / 262144 = d := ⟨_, rfl⟩
          rw [hd] at e0
          clear hx hb hq h1 h2 h3 hs
          go_enter Tryd.func32, Tryd.ntmps32
          go_wp2_with fail
          go_ret
          exact ⟨_, 4, rfl, lit4 b0 b1 b2 b3, bal (Below.refl _ _) _⟩

set_option maxRecDepth 100000 in
theorem width_any (k : Int) (w : World) : Calls Tryd.prog 31 #[.int .i64 k] w fun e w' => e = .returned (.int .i64 (widK k)) ∧ w = w' := by
  rcases wid_cases k with ⟨rfl, hw⟩ | ⟨rfl, hw⟩ | ⟨rfl, hw⟩ | ⟨hk, hw⟩ | ⟨⟨h1, h2, h3, h4, h5, h6, h7⟩, hw⟩
  · rw [hw]
    go_enter Tryd.func31, Tryd.ntmps31
    go_wp2_with fail
    go_ret
    exact ⟨rfl, rfl⟩
  · rw [hw]
    go_enter Tryd.func31, Tryd.ntmps31
    go_wp2_with fail
    go_ret
    exact ⟨rfl, rfl⟩
  · rw [hw]
    go_enter Tryd.func31, Tryd.ntmps31
    go_wp2_with fail
    go_ret
    exact ⟨rfl, rfl⟩
  · rw [hw]
    rcases hk with rfl | rfl | rfl | rfl
    all_goals
      go_enter Tryd.func31, Tryd.ntmps31
      go_wp2_with fail
      go_ret
      exact ⟨rfl, rfl⟩
  · rw [hw]
    go_enter Tryd.func31, Tryd.ntmps31
    go_wp2_with fail
    go_ret
    exact ⟨rfl, rfl⟩
end Go.Proofs.YtkmpmphabohkkaaDoor
