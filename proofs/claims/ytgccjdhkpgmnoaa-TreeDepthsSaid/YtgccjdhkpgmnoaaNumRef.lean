/-
  Contract of the reference implementation's Uint.
-/
import Derived.Test.YtgccjdhkpgmnoaaCur
import Derived.Test.YtgccjdhkpgmnoaaNumMath
import Derived.Test.YtgccjdhkpgmnoaaNumRun
import Derived.Deep.Cut
namespace Go.Proofs.Ytgccjdhkpgmnoaa
open Go.RowKit

def lenOf : Value → Nat | .slice _ n _ => n | _ => 0

theorem bs_tail {w : World} {b off n c : Nat} {x : UInt8} {l : List UInt8} (h : Bs w (some ⟨b, off, none⟩) n c (x :: l)) :
    Bs w (if c = 1 then some ⟨b, off, none⟩ else some ⟨b, off + 1, none⟩) (n - 1) (c - 1) l := by
  obtain ⟨h1, h2, h3, h4⟩ := h
  simp only [List.length_cons] at h1
  refine ⟨by omega, by omega, by omega, fun hn => ?_⟩
  rw [if_neg (by omega)]
  obtain ⟨b', off', e, hb, hc⟩ := h4 (by omega)
  injection e with e
  injection e with e1 e2
  subst e1; subst e2
  refine ⟨b, off + 1, rfl, hb, fun j hj => ?_⟩
  have := hc (j + 1) (by simp; omega)
  rw [Nat.add_assoc, Nat.add_comm 1 j]
  simpa using this

set_option maxHeartbeats 1000000 in
theorem ref_uint_any {w : World} {a : Option Addr} {n c : Nat} {l : List UInt8} (hx : Bs w a n c l) :
    Calls Try.prog 63 #[.slice a n c] w fun e w' => e = .returned (.tuple #[.int .u64 (uval l), .bool (uok l)]) ∧ w = w' := by
  go_enter Try.func63, Try.ntmps63
  go_wp2
  go_loop [0] (fun v => ∃ a' n' c' l', v = .slice a' n' c' ∧ Bs w a' n' c' l' ∧ bnum l' = bnum l ∧ n' ≤ n) (fun v => lenOf v)
  case atStart => exact ⟨a, n, c, l, rfl, hx, rfl, Nat.le_refl _⟩
  case round =>
    obtain ⟨a', n', c', l', rfl, hb, he, hle⟩ := hrel
    have HE := Lib.hid he
    have HN := Lib.hid hb.len
    clear he
    by_cases hlt : 0 < n'
    · obtain ⟨b, off, hkl, rfl, _, hc⟩ := hb.at_ hlt
      cases l' with
      | nil => simp at hkl
      | cons x l' =>
        have hc' : w.cell? ⟨b, off, none⟩ = some (.int .u8 x.toNat) := by simpa using hc
        clear hc hkl
        have HT := Lib.hid (bs_tail hb)
        have hcc := hb.2.1
        have hcm := hb.2.2.1
        unfold maxLen at hcm
        have HBS := Lib.hid hb
        clear hb
        by_cases hx0 : x = 0
        · subst hx0
          have hz : ((0 : UInt8).toNat : Int) = 0 := rfl
          rw [hz] at hc'
          clear hz
          go_wp2
          exact ⟨⟨_, _, _, l', rfl, HT.out, by rw [← bnum_zero]; exact HE.out, by omega⟩, by simp [lenOf]; omega⟩
        · have hxz : ((x.toNat : Int) == 0) = false := by
            rw [beq_eq_false_iff_ne]
            intro h
            exact hx0 (UInt8.toNat_inj.1 (by simpa using h))
          have HX0 := Lib.hid hx0
          clear hx0
          by_cases h8 : 8 < n'
          · go_wp2
            go_ret2
            have hbig : two64 ≤ bnum l := by rw [← HE.out]; exact bnum_big HX0.out (by have := HN.out; simp only [List.length_cons] at this; omega)
            exact ⟨by rw [← uval_ge hbig, ← uok_ge hbig]; rfl, rfl⟩
          · go_wp2
            go_loop [4, 5] (fun v i => ∃ k m : Nat, k ≤ n' ∧ i = .int .i64 k ∧ v = .int .u64 m ∧ bnum ((x :: l').take k) = m) (fun _ i => n' - (intOf i).toNat)
            case atStart => exact ⟨0, 0, Nat.zero_le _, rfl, rfl, rfl⟩
            case round =>
              obtain ⟨k, m, hk, rfl, rfl, hm⟩ := hrel
              have HM := Lib.hid hm
              clear hm
              by_cases hk2 : k < n'
              · obtain ⟨b2, off2, hkl2, e2, _, hc2⟩ := HBS.out.at_ hk2
                injection e2 with e2
                injection e2 with e2 e3
                subst e2; subst e3
                have h0 : (0 : Int) ≤ k := by omega
                have h1 : (k : Int) < n' := by omega
                have HX := Lib.hid (bnum_take (x :: l') hkl2)
                have H56 := Lib.hid (prefix_lt (l := (x :: l')) (k := k) (by have := HN.out; omega) hkl2)
                generalize (x :: l')[k] = x2 at *
                clear hkl2
                go_wp2
                refine ⟨⟨k + 1, m * 256 + x2.toNat, by omega, by go_num, by rw [mul8 (by rw [← HM.out]; exact H56.out)], by rw [HX.out, HM.out]⟩, by simp [intOf]; omega⟩
              · go_wp2
                go_ret2
                have e : bnum l = m := by rw [← HE.out, ← HM.out, List.take_of_length_le (by have := HN.out; omega)]
                have h64 : m < two64 := by rw [← e, ← HE.out]; exact bnum_small (by have := HN.out; omega)
                exact ⟨by rw [← uval_lt e h64, ← uok_lt e h64]; rfl, rfl⟩
    · have hn0 : n' = 0 := by omega
      have HB := Lib.hid hb
      clear hb
      subst hn0
      go_wp2
      go_loop [4, 5] (fun v i => i = .int .i64 0 ∧ v = .int .u64 0) (fun _ i => 0)
      case atStart => exact ⟨rfl, rfl⟩
      case round =>
        obtain ⟨rfl, rfl⟩ := hrel
        go_wp2
        go_ret2
        have e : bnum l = 0 := by rw [← HE.out, List.eq_nil_of_length_eq_zero HN.out]; rfl
        exact ⟨by rw [← uval_lt (n := 0) e (by decide), ← uok_lt e (by decide)]; rfl, rfl⟩
end Go.Proofs.Ytgccjdhkpgmnoaa
