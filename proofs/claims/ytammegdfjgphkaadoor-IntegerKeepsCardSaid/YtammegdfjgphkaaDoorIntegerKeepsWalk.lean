/-
  The walk of the law IntegerKeeps.
-/
import Derived.Test.YtammegdfjgphkaaDoorIntAwake
namespace Go.Proofs.YtammegdfjgphkaaDoor.integerKeeps
open Go.RowKit

theorem bs_far {w : World} {a : Option Addr} {n c : Nat} {l : List UInt8} (h : Bs w a n c l) {p : Addr} (hp : ∀ x, a = some x → x.block ≠ p.block) (u : Value) : Bs (w.setCell p u) a n c l :=
  ⟨h.1, h.2.1, h.2.2.1, fun hn => by
    obtain ⟨b, off, e, hb, hc⟩ := h.2.2.2 hn
    exact ⟨b, off, e, by simpa using hb, fun i hi => (World.cell?_of_block (a := ⟨b, off + i, none⟩) (Below.heap_setCell w p u b (hp _ e))).trans (hc i hi)⟩⟩

set_option maxRecDepth 100000 in
set_option maxHeartbeats 4000000 in
theorem walk {w : World} {a : Option Addr} {n c : Nat} {l : List UInt8} (b0 : Bs w a n c l) :
    Calls Tryd.prog 8 #[.slice a n c] w fun e w' => e = .returned (.bool true) ∧ Below w.heap.size w w' := by
  have HA := Lib.hid (awakeInt_any)
  have HX := Lib.hid b0
  clear b0
  obtain ⟨i0, hi, hz0, hz1, hz2⟩ := info_parts info_u8
  by_cases hs : n ≤ 60
  · have hs' : ¬ (60 : Int) < n := by omega
    go_enter Tryd.func8, Tryd.ntmps8
    go_wp2_with fail
    with_reducible refine (HA.out _).mono ?_
    rintro e w1 ⟨rfl, q1⟩
    have Q1 := Lib.hid q1
    clear q1
    go_wp2_with (at_builtin; go_must (refine wpList_app _ rfl _ _ 22 rfl w1.heap.size 5 i0 Tryd.underlying22 hi hz0 hz1 hz2 (some ⟨w1.heap.size, 0, none⟩) 0 0 [] rfl (own_made w1 _) a n c l rfl ((HX.out.below Q1.out).alloc _) ?c1 ?c2 ?_))
    case c1 => omega
    case c2 => simp
    intro a2 c2 w2 ho2 hg2
    have D2 : Hid (Below w1.heap.size w1 w2) := (bal (Below.refl _ _) _).trans (app_below (own_made w1 _) hg2 (Nat.le_refl _) (by simp))
    have Q2 := Lib.hid (bthen Q1.out D2.out)
    have O2 : Hid (Bs w2 a2 n c2 l) := by show Bs _ _ _ _ _; simpa using ho2.bs
    clear ho2 hg2
    have H3 := Lib.hid (fromUnsigned_any O2.out (by omega))
    go_wp2_with fail
    with_reducible refine H3.out.mono ?_
    rintro e w3 ⟨a3, c3, rfl, hu, hum, q3⟩
    have U3 := Lib.hid hu
    have M3 := Lib.hid hum
    have Q3 := Lib.hid q3
    clear hu hum q3 H3
    have H4 := Lib.hid (unsigned_any (O2.out.below Q3.out) (by omega))
    go_wp2_with fail
    with_reducible refine H4.out.mono ?_
    rintro e w4 ⟨a4, c4, rfl, hd, hdm, q4⟩
    have U4 := Lib.hid (U3.out.below q4)
    have M4 := Lib.hid (M3.out.below q4)
    have N4 := Lib.hid hdm
    have D4 := Lib.hid hd
    have Q4 := Lib.hid (bthen Q3.out q4)
    have L3 : Hid (∀ x, a3 = some x → x.block < w3.heap.size) := fun x hx => (M3.out x hx).2.1
    clear hd hdm q4 H4
    have H5 := Lib.hid (dec_any (O2.out.below Q4.out) (by omega))
    go_wp2_with fail
    with_reducible refine H5.out.mono ?_
    rintro e w5 ⟨rfl, q5⟩
    have U5 := Lib.hid (U4.out.below q5)
    have M5 := Lib.hid (M4.out.below q5)
    have N5 := Lib.hid (N4.out.below q5)
    have D5 := Lib.hid (D4.out.below q5)
    have Q5 := Lib.hid (bthen Q4.out q5)
    have hs3 := Q3.out.size
    clear q5 H5 U4 M4 N4 D4
    obtain ⟨m, hm⟩ : ∃ m, (senc (bnum l : Int)).length = m := ⟨_, rfl⟩
    obtain ⟨d, hd⟩ : ∃ d, (uL l).length = d := ⟨_, rfl⟩
    rw [hm] at U5 ⊢
    rw [hd] at D5 ⊢
    generalize senc (bnum l : Int) = ul at *
    generalize uL l = dl at *
    have hmz : (m : Int) ≤ 9223372036854775807 := by have := U5.out.2.1; have := U5.out.2.2.1; unfold maxLen at this; omega
    have hdz : (d : Int) ≤ 9223372036854775807 := by have := D5.out.2.1; have := D5.out.2.2.1; unfold maxLen at this; omega
    go_wp2
    go_loopw [7] (fun i wr => ∃ k : Nat, ∃ x y, k ≤ m ∧ i = .int .i64 k ∧ Bs wr a3 m c3 x ∧ Mine wr w2.heap.size a3 ∧ Bs wr a4 d c4 y ∧ Mine wr w3.heap.size a4 ∧ Below w2.heap.size w2 wr) (fun i _ => m - (intOf i).toNat)
    case atStart => exact ⟨0, _, _, by omega, rfl, U5.out, M5.out, D5.out, N5.out, Q5.out⟩
    case round =>
      obtain ⟨k, x, y, hk, rfl, hu, hum, hdd, hdm, hb⟩ := hrel
      have U6 := Lib.hid hu
      have M6 := Lib.hid hum
      have D6 := Lib.hid hdd
      have N6 := Lib.hid hdm
      have Q6 := Lib.hid hb
      by_cases hlt : k < m
      · obtain ⟨b, off, hkl, rfl, _, hc⟩ := hu.at_ hlt
        obtain ⟨hf1, hf2, hf3⟩ := hum _ rfl
        have hf := hf3 (off + k)
        have HST := Lib.hid (bs_store hu (j := k) (x[k] + 1))
        rw [← inc_byte] at HST
        generalize x[k] = t at *
        have htb := byte_bd t
        have hk0 : (0 : Int) ≤ k := by omega
        have hk1 : (k : Int) < m := by omega
        have hB0 := Lib.hid hf1
        have hL := Lib.hid (L3.out _ rfl)
        clear hu hum hdd hdm hb hf3 hf1 hkl
        go_wp2
        refine ⟨⟨k + 1, _, _, by omega, by go_num, HST.out, M6.out.setCell _ _, bs_far D6.out ?_ _, N6.out.setCell _ _, Q6.out.setCell (p := ⟨b, off + k, none⟩) hB0.out _⟩, by simp [intOf]; omega⟩
        intro z hz
        have h1 := (N6.out z hz).1
        have h2 := hL.out
        simp only at h2 ⊢
        omega
      · clear hu hum hdd hdm hb
        go_wp2
        go_loopw [8] (fun i wr => ∃ k : Nat, ∃ y, k ≤ d ∧ i = .int .i64 k ∧ Bs wr a4 d c4 y ∧ Mine wr w3.heap.size a4 ∧ Below w2.heap.size w2 wr) (fun i _ => d - (intOf i).toNat)
        case atStart => exact ⟨0, _, by omega, rfl, D6.out, N6.out, Q6.out⟩
        case round =>
          obtain ⟨k, y, hk, rfl, hdd, hdm, hb⟩ := hrel
          have N7 := Lib.hid hdm
          have Q7 := Lib.hid hb
          by_cases hlt : k < d
          · obtain ⟨b, off, hkl, rfl, _, hc⟩ := hdd.at_ hlt
            obtain ⟨hf1, hf2, hf3⟩ := hdm _ rfl
            have hf := hf3 (off + k)
            have HST := Lib.hid (bs_store hdd (j := k) (y[k] + 1))
            rw [← inc_byte] at HST
            generalize y[k] = t at *
            have htb := byte_bd t
            have hk0 : (0 : Int) ≤ k := by omega
            have hk1 : (k : Int) < d := by omega
            have hB0 : Hid (w2.heap.size ≤ b) := Nat.le_trans hs3 hf1
            clear hdd hdm hb hf3 hf1 hkl
            go_wp2
            exact ⟨⟨k + 1, _, by omega, by go_num, HST.out, N7.out.setCell _ _, Q7.out.setCell (p := ⟨b, off + k, none⟩) hB0.out _⟩, by simp [intOf]; omega⟩
          · clear hdd hdm hb
            go_wp2_with fail
            with_reducible refine (bytes_any (O2.out.below Q7.out) (HX.out.below (bthen Q2.out Q7.out))).mono ?_
            rintro e w8 ⟨rfl, rfl⟩
            rw [eqB_self]
            go_wp2_with fail
            go_ret
            exact ⟨rfl, bthen Q2.out Q7.out⟩
  · have hs' : (60 : Int) < n := by omega
    go_enter Tryd.func8, Tryd.ntmps8
    go_wp2_with fail
    with_reducible refine (HA.out _).mono ?_
    rintro e w1 ⟨rfl, q1⟩
    go_wp2_with fail
    with_reducible refine (HA.out _).mono ?_
    rintro e w2 ⟨rfl, q2⟩
    go_wp2_with fail
    go_ret
    exact ⟨rfl, bthen q1 q2⟩
end Go.Proofs.YtammegdfjgphkaaDoor.integerKeeps
