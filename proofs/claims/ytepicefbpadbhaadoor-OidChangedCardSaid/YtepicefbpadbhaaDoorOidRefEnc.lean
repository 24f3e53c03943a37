/-
  Contracts of the reference's base and Encode.
-/
import Derived.Test.YtepicefbpadbhaaDoorOidText
import Derived.Test.YtepicefbpadbhaaDoorOidRefArcs
import Derived.StillTailTactics
namespace Go.Proofs.YtepicefbpadbhaaDoor
open Go.RowKit

theorem subO_len {n : Nat} (last : Bool) (hn : n ≤ 4294967295) : (subO n last).length ≤ 5 := by
  have h1 : ∀ n l, n < 128 → (subO n l).length ≤ 1 := fun n l h => by rw [subO_small h]; simp
  have h2 : ∀ n l, n < 16384 → (subO n l).length ≤ 2 := fun n l h => by
    by_cases h' : n < 128
    · have := h1 n l h'; omega
    · rw [subO_big h', List.length_append]; have := h1 (n / 128) false (by omega); simp; omega
  have h3 : ∀ n l, n < 2097152 → (subO n l).length ≤ 3 := fun n l h => by
    by_cases h' : n < 128
    · have := h1 n l h'; omega
    · rw [subO_big h', List.length_append]; have := h2 (n / 128) false (by omega); simp; omega
  have h4 : ∀ n l, n < 268435456 → (subO n l).length ≤ 4 := fun n l h => by
    by_cases h' : n < 128
    · have := h1 n l h'; omega
    · rw [subO_big h', List.length_append]; have := h3 (n / 128) false (by omega); simp; omega
  by_cases h' : n < 128
  · have := h1 n last h'; omega
  · rw [subO_big h', List.length_append]; have := h4 (n / 128) false (by omega); simp; omega

set_option maxRecDepth 100000 in
set_option maxHeartbeats 4000000 in
theorem base_any (K : Nat) : ∀ n ≤ K, n ≤ 4294967295 → ∀ (last : Bool) (w : World), Calls Tryd.prog 33 #[.int .u64 (n : Int), .bool last] w fun e w' => ∃ a c, e = .returned (.slice a (subO n last).length c) ∧ Own w' w.heap.size 5 a (subO n last).length c (subO n last) ∧ Below w.heap.size w w' := by
  induction K using Nat.strongRecOn with
  | _ K ih =>
    intro n hn hb last w
    obtain ⟨i0, hi, hz0, hz1, hz2⟩ := info_parts info_u8
    obtain ⟨q, hq⟩ : ∃ q, n / 128 = q := ⟨_, rfl⟩
    obtain ⟨r, hr⟩ : ∃ r, n % 128 = r := ⟨_, rfl⟩
    have hq2 : (n : Int) / 128 = q := by omega
    have hr2 : (n : Int) % 128 = r := by omega
    have hr3 : r < 128 := by omega
    have hr0 : (0 : Int) ≤ r := by omega
    have hr4 : (r : Int) < 128 := by omega
    have hn0 : (0 : Int) ≤ n := by omega
    have hn1 : (n : Int) ≤ 4294967295 := by omega
    have hw1 : IntKind.u8.wrap (r : Int) = r := by rw [IntKind.wrap_u8]; omega
    have hw2 : IntKind.u8.wrap ((r : Int) + 128) = (r : Int) + 128 := by rw [IntKind.wrap_u8]; omega
    obtain ⟨y, hy⟩ : ∃ y : Nat, (if last = true then r else r + 128) = y := ⟨_, rfl⟩
    have hyb : y < 256 := by rw [← hy]; split <;> omega
    have HY : Hid ((UInt8.ofNat y).toNat = y) := by show (UInt8.ofNat y).toNat = y; rw [UInt8.toNat_ofNat']; omega
    by_cases h128 : n < 128
    · have e1 : subO n last = [UInt8.ofNat y] := by rw [subO_small h128, ← hy, show r = n from by omega]
      rw [e1]
      have h128' : (n : Int) < 128 := by omega
      clear e1 ih
      cases last with
      | true =>
        have hyr : Hid (y = r) := by rw [← hy]; rfl
        clear hy
        go_enter Tryd.func33, Tryd.ntmps33
        go_wp2
        go_ret
        exact ⟨_, _, rfl, own_lit _ _ _ 1 (by rw [← hyr.out]; simp [cellsOf, HY.out]) rfl (by unfold maxLen; omega) (Nat.le_refl _), bal (Below.refl _ _) _⟩
      | false =>
        have hyr : Hid ((y : Int) = (r : Int) + 128) := by show (y : Int) = _; rw [← hy]; simp
        clear hy
        go_enter Tryd.func33, Tryd.ntmps33
        go_wp2
        go_ret
        exact ⟨_, _, rfl, own_lit _ _ _ 1 (by rw [← hyr.out]; simp [cellsOf, HY.out]) rfl (by unfold maxLen; omega) (Nat.le_refl _), bal (Below.refl _ _) _⟩
    · have e1 : subO n last = subO q false ++ [UInt8.ofNat y] := by rw [subO_big h128, ← hy, hq, hr]
      rw [e1]
      have h128' : ¬ (n : Int) < 128 := by omega
      have HI := Lib.hid (ih q (by omega) q (Nat.le_refl _) (by omega) false w)
      have hlq := subO_len (n := q) false (by omega)
      clear e1 ih
      cases last with
      | true =>
        have hyr : Hid (y = r) := by rw [← hy]; rfl
        clear hy
        go_enter Tryd.func33, Tryd.ntmps33
        go_wp2_with fail
        refine HI.out.mono ?_
        rintro e w2 ⟨a2, c2, rfl, ho, hb2⟩
        have HO := Lib.hid ho
        have HB := Lib.hid hb2
        have hsz := hb2.size
        have HLIT : Hid (Bs (w2.alloc (.cells #[.int .u8 (r : Int)] 5)) (some ⟨w2.heap.size, 0, none⟩) 1 1 [UInt8.ofNat y]) := bs_lit _ _ _ _ 1 (by rw [← hyr.out]; simp [cellsOf, HY.out]) rfl (by unfold maxLen; omega)
        clear ho hb2
        go_wp2_with (at_builtin; go_must (refine wpList_app _ rfl _ _ 32 rfl w.heap.size 5 i0 Tryd.underlying32 hi hz0 hz1 hz2 a2 _ c2 _ rfl (World.ownsRow.alloc HO.out _) (some ⟨w2.heap.size, 0, none⟩) 1 1 [UInt8.ofNat y] rfl HLIT.out (by omega) (by simp; omega) ?_))
        intro a3 c3 w3 ho3 hg3
        have HO3 := Lib.hid ho3
        have HB3 := Lib.hid ((bal HB.out _).trans (app_below (World.ownsRow.alloc HO.out (.cells #[.int .u8 (r : Int)] 5)) hg3 (Nat.le_refl _) (by simp; omega)))
        clear ho3 hg3
        go_wp2
        go_ret
        exact ⟨a3, c3, by rw [List.length_append]; rfl, by rw [List.length_append]; exact HO3.out, HB3.out⟩
      | false =>
        have hyr : Hid ((y : Int) = (r : Int) + 128) := by show (y : Int) = _; rw [← hy]; simp
        clear hy
        go_enter Tryd.func33, Tryd.ntmps33
        go_wp2_with fail
        refine HI.out.mono ?_
        rintro e w2 ⟨a2, c2, rfl, ho, hb2⟩
        have HO := Lib.hid ho
        have HB := Lib.hid hb2
        have hsz := hb2.size
        have HLIT : Hid (Bs (w2.alloc (.cells #[.int .u8 ((r : Int) + 128)] 5)) (some ⟨w2.heap.size, 0, none⟩) 1 1 [UInt8.ofNat y]) := bs_lit _ _ _ _ 1 (by rw [← hyr.out]; simp [cellsOf, HY.out]) rfl (by unfold maxLen; omega)
        clear ho hb2
        go_wp2_with (at_builtin; go_must (refine wpList_app _ rfl _ _ 32 rfl w.heap.size 5 i0 Tryd.underlying32 hi hz0 hz1 hz2 a2 _ c2 _ rfl (World.ownsRow.alloc HO.out _) (some ⟨w2.heap.size, 0, none⟩) 1 1 [UInt8.ofNat y] rfl HLIT.out (by omega) (by simp; omega) ?_))
        intro a3 c3 w3 ho3 hg3
        have HO3 := Lib.hid ho3
        have HB3 := Lib.hid ((bal HB.out _).trans (app_below (World.ownsRow.alloc HO.out (.cells #[.int .u8 ((r : Int) + 128)] 5)) hg3 (Nat.le_refl _) (by simp; omega)))
        clear ho3 hg3
        go_wp2
        go_ret
        exact ⟨a3, c3, by rw [List.length_append]; rfl, by rw [List.length_append]; exact HO3.out, HB3.out⟩
end Go.Proofs.YtepicefbpadbhaaDoor
