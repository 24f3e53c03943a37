/-
  Contract of the program's text, at every width.
-/
import Derived.Test.YtkmpmphabohkkaaDoorChTextW
import Derived.Test.YtkmpmphabohkkaaDoorChEncP
namespace Go.Proofs.YtkmpmphabohkkaaDoor
open Go.RowKit

set_option maxRecDepth 100000 in
set_option maxHeartbeats 1000000 in
theorem text_odd (F : Value) (Wd : Nat) (hWd : Wd = 1 ∨ Wd = 2 ∨ Wd = 4) {w : World} {a : Option Addr} {n c : Nat} (hn : n % Wd ≠ 0) (hz : n ≤ 5000) :
    Calls Tryd.prog 35 #[.agg #[F, .int .i64 Wd], .slice a n c] w fun e w' => e = .returned (.tuple #[.string ⟨#[]⟩, .bool false]) ∧ Below w.heap.size w w' := by
  obtain ⟨H, hH⟩ : ∃ H, w.heap.size = H := ⟨_, rfl⟩
  obtain ⟨w3, hw3⟩ : ∃ w3, ((w.alloc (.cells #[F, .int .i64 Wd] 47)).alloc (.cells #[.string ⟨#[]⟩] 9)).alloc (.cells #[.bool false] 4) = w3 := ⟨_, rfl⟩
  have b0 := Blk.new w 47 #[F, .int .i64 Wd]
  have b1 := Boxed.new (w.alloc (.cells #[F, .int .i64 Wd] 47)) 9 (.string ⟨#[]⟩)
  have b2 := Boxed.new ((w.alloc (.cells #[F, .int .i64 Wd] 47)).alloc (.cells #[.string ⟨#[]⟩] 9)) 4 (.bool false)
  simp only [World.size_alloc, hH] at b0 b1 b2
  have B0 := (b0.alloc (.cells #[.string ⟨#[]⟩] 9)).alloc (.cells #[.bool false] 4)
  have B1 := b1.alloc (.cells #[.bool false] 4)
  have hb3 : Below H w w3 := by rw [← hw3, ← hH]; exact bal (bal (bal (Below.refl _ w) _) _) _
  rw [hw3] at B0 B1 b2
  obtain ⟨e0, e1, _, _⟩ := B0.cells2
  have c1 := B1.cell
  have f1 := B1.frozen
  have c2 := b2.cell
  have f2 := b2.frozen
  have hWb : ((Wd : Int) == 0) = false := by simp; omega
  have hWn : (Wd : Int) ≠ 0 := by omega
  obtain ⟨r, hr⟩ : ∃ r, n % Wd = r := ⟨_, rfl⟩
  have hrem2 : (n : Int) % Wd = r := by rw [← hr]; exact (Int.natCast_emod n Wd).symm
  have hrem : (n : Int).tmod Wd = r := by rw [Int.tmod_eq_emod_of_nonneg (by omega)]; exact hrem2
  have hr0 : (r : Int) ≠ 0 := by omega
  have hrb : r ≤ 5000 := by rw [← hr]; exact Nat.le_trans (Nat.mod_le _ _) hz
  have hrb2 : (r : Int) ≤ 5000 := by omega
  have hr00 : (0 : Int) ≤ r := by omega
  clear b0 b1 hr hn
  go_enter Tryd.func35, Tryd.ntmps35
  go_wp2_with fail
  have k0 := boxed_store (B1.set (.string ⟨#[]⟩)) (show H + 1 ≠ H + 1 + 1 by omega) (u := .bool false)
  have k1 : Boxed ((w3.setCell ⟨H + 1, 0, none⟩ (.string ⟨#[]⟩)).setCell ⟨H + 1 + 1, 0, none⟩ (.bool false)) (H + 1 + 1) 4 (.bool false) := (boxed_store b2 (show H + 1 + 1 ≠ H + 1 by omega) (u := .string ⟨#[]⟩)).set (.bool false)
  have q4 := (hb3.setCell (p := ⟨H + 1, 0, none⟩) (by show H ≤ H + 1; omega) (.string ⟨#[]⟩)).setCell (p := ⟨H + 1 + 1, 0, none⟩) (by show H ≤ H + 1 + 1; omega) (.bool false)
  exact bodyPost_ret (results_cells2 rfl _ _ _ (p := 4) (q := 5) rfl rfl (run_isAgg_plain Tryd.underlying9 rfl _) (run_isAgg_plain Tryd.underlying4 rfl _) k0.cell k1.cell) rfl ⟨rfl, by rw [hH]; exact q4⟩

set_option maxRecDepth 100000 in
set_option maxHeartbeats 1000000 in
theorem text_utf {w : World} (hW : Wd w) {a : Option Addr} {n c : Nat} {l : List UInt8} (h : Bs w a n c l) (hz : n ≤ 5000) :
    Calls Tryd.prog 35 #[.agg #[fnK 12, .int .i64 0], .slice a n c] w fun e w' => e = .returned (.tuple #[.string ⟨l.toArray⟩, .bool (vT 12 l)]) ∧ Below w.heap.size w w' := by
  have hln := h.len
  have HA := Lib.hid (fun w hw => hasall_any 12 (by decide) l (by omega) w hw)
  have e12 : wdK 12 = 0 := rfl
  rw [e12] at HA
  obtain ⟨f, hf⟩ := fnK_yes (k := 12) (by decide)
  rw [hf] at HA ⊢
  obtain ⟨H, hH⟩ : ∃ H, w.heap.size = H := ⟨_, rfl⟩
  obtain ⟨F, hF⟩ : ∃ F, Value.func (.func f) #[] #[] = F := ⟨_, rfl⟩
  obtain ⟨w3, hw3⟩ : ∃ w3, ((w.alloc (.cells #[F, .int .i64 0] 47)).alloc (.cells #[.string ⟨#[]⟩] 9)).alloc (.cells #[.bool false] 4) = w3 := ⟨_, rfl⟩
  have b0 := Blk.new w 47 #[F, .int .i64 0]
  have b1 := Boxed.new (w.alloc (.cells #[F, .int .i64 0] 47)) 9 (.string ⟨#[]⟩)
  have b2 := Boxed.new ((w.alloc (.cells #[F, .int .i64 0] 47)).alloc (.cells #[.string ⟨#[]⟩] 9)) 4 (.bool false)
  simp only [World.size_alloc, hH] at b0 b1 b2
  have B0 := (b0.alloc (.cells #[.string ⟨#[]⟩] 9)).alloc (.cells #[.bool false] 4)
  have B1 := b1.alloc (.cells #[.bool false] 4)
  have hb3 : Below H w w3 := by rw [← hw3, ← hH]; exact bal (bal (bal (Below.refl _ w) _) _) _
  have hs3 : w3.heap.size = H + 3 := by rw [← hw3]; simp [hH]
  rw [hw3] at B0 B1 b2
  have hbs : Bs w3 a n c l := h.below (by rw [hH]; exact hb3)
  have hcv := fun w' (h' : Bs w' a n c l) => h'.conv (P := Tryd.prog) Tryd.underlying25 Tryd.underlying5 Tryd.underlying9
  have hcv3 := hcv w3 hbs
  obtain ⟨e0, e1, _, _⟩ := B0.cells2
  have W3 := hW.below (by rw [hH]; exact hb3)
  rw [hF] at HA ⊢
  generalize vT 12 l = V at *
  clear b0 b1 hcv hf
  go_enter Tryd.func35, Tryd.ntmps35
  go_wp2_with fail
  with_reducible refine (HA.out _ W3).mono ?_
  rintro e w4 ⟨rfl, q⟩
  have m1 : Boxed w4 (H + 1) 9 (.string ⟨#[]⟩) := boxed_below B1 q (by omega)
  have m2 : Boxed w4 (H + 1 + 1) 4 (.bool false) := boxed_below b2 q (by omega)
  have c1 := m1.cell
  have f1 := m1.frozen
  have c2 := m2.cell
  have f2 := m2.frozen
  have q3 := hb3.trans (q.mono (by omega))
  go_wp2_with fail
  have k0 := boxed_store (m1.set (.string ⟨l.toArray⟩)) (show H + 1 ≠ H + 1 + 1 by omega) (u := .bool V)
  have k1 : Boxed ((w4.setCell ⟨H + 1, 0, none⟩ (.string ⟨l.toArray⟩)).setCell ⟨H + 1 + 1, 0, none⟩ (.bool V)) (H + 1 + 1) 4 (.bool V) := (boxed_store m2 (show H + 1 + 1 ≠ H + 1 by omega) (u := .string ⟨l.toArray⟩)).set (.bool V)
  have q4 := (q3.setCell (p := ⟨H + 1, 0, none⟩) (by show H ≤ H + 1; omega) (.string ⟨l.toArray⟩)).setCell (p := ⟨H + 1 + 1, 0, none⟩) (by show H ≤ H + 1 + 1; omega) (.bool V)
  exact bodyPost_ret (results_cells2 rfl _ _ _ (p := 4) (q := 5) rfl rfl (run_isAgg_plain Tryd.underlying9 rfl _) (run_isAgg_plain Tryd.underlying4 rfl _) k0.cell k1.cell) rfl ⟨rfl, by rw [hH]; exact q4⟩

/-- at every kind: whether there is such a string; which one, if there is -/
theorem text_any (k : Int) (hk : 0 ≤ widK k) {w : World} (hW : Wd w) {a : Option Addr} {n c : Nat} {l : List UInt8} (h : Bs w a n c l) (hz : n ≤ 5000) :
    Calls Tryd.prog 35 #[.agg #[fnK k, .int .i64 (wdK k)], .slice a n c] w fun e w' => ∃ s, e = .returned (.tuple #[.string ⟨s.toArray⟩, .bool (decT k l).isSome]) ∧ ((decT k l).isSome = true → s = tdS k l) ∧ Below w.heap.size w w' := by
  have hwd : wdK k = widK k := if_pos hk
  have hln := h.len
  have main : ∀ Wd : Nat, (Wd = 1 ∨ Wd = 2 ∨ Wd = 4) → widK k = Wd → Calls Tryd.prog 35 #[.agg #[fnK k, .int .i64 (wdK k)], .slice a n c] w fun e w' => ∃ s, e = .returned (.tuple #[.string ⟨s.toArray⟩, .bool (decT k l).isSome]) ∧ ((decT k l).isSome = true → s = tdS k l) ∧ Below w.heap.size w w' := by
    intro Wd hWd hkw
    rw [hwd, hkw]
    by_cases hm : n % Wd = 0
    · obtain ⟨m, hm2⟩ : ∃ m, n = m * Wd := ⟨n / Wd, (Nat.div_mul_cancel (Nat.dvd_of_mod_eq_zero hm)).symm⟩
      exact (callsIn_wide.1 (text_in k Wd hWd hkw h hz m hm2)).mono (by rintro e w' ⟨rfl, q⟩; exact ⟨_, rfl, fun _ => rfl, q⟩)
    · have hd := dec_odd hWd hkw (l := l) (by rw [hln]; exact hm)
      rw [hd]
      exact (text_odd (fnK k) Wd hWd hm hz).mono (by rintro e w' ⟨rfl, q⟩; exact ⟨[], rfl, fun h => by (cases h), q⟩)
  rcases wid_cases k with ⟨rfl, h1⟩ | ⟨rfl, h1⟩ | ⟨rfl, h1⟩ | ⟨_, h1⟩ | ⟨_, h1⟩
  · have e : (decT 12 l).isSome = vT 12 l := by
      rw [dec_utf]
      cases vT 12 l <;> rfl
    rw [e]
    refine (text_utf hW h hz).mono ?_
    rintro e w' ⟨rfl, q⟩
    refine ⟨l, rfl, fun hv => ?_, q⟩
    unfold tdS
    rw [dec_utf, if_pos hv]
    rfl
  · exact main 4 (by omega) h1
  · exact main 2 (by omega) h1
  · exact main 1 (by omega) h1
  · omega
end Go.Proofs.YtkmpmphabohkkaaDoor
