/-
  Contract of the program's isPrintable: the library's search for a rune in a fixed string of ASCII.
-/
import Derived.Test.YtkmpmphabohkkaaDoorChKind
import Derived.Lib.OthersKept
import Derived.Laws.Runes
import Derived.BigRegion
namespace Go.Proofs.YtkmpmphabohkkaaDoor
open Go.RowKit

def pL : List UInt8 := [32, 39, 40, 41, 43, 44, 45, 46, 47, 58, 61, 63]
theorem idx_none : ∀ (l : List UInt8) (c : UInt8), (∀ x ∈ l, x ≠ c) → Lib.indexByte l c = -1
  | [], _, _ => rfl
  | x :: l, c, h => by
    have hb : (x == c) = false := by simpa using h x (List.mem_cons_self ..)
    rw [Lib.indexByte, hb, idx_none l c fun y hy => h y (List.mem_cons_of_mem _ hy)]
    rfl
set_option maxRecDepth 100000 in
theorem idxr_not (r : Int) (hr : r < 0 ∨ 128 ≤ r) (hs : (decide (0 ≤ r) && scal r.toNat) = false) (w : World) :
    Calls Tryd.prog 80 #[.string ⟨#[32, 39, 40, 41, 43, 44, 45, 46, 47, 58, 61, 63]⟩, .int .i32 r] w fun e w' => e = .returned (.int .i64 (-1)) ∧ Below w.heap.size w w' := by
  have H := Lib.hid (vrune_any r w)
  rw [hs] at H
  have hne : r ≠ 65533 := by rintro rfl; revert hs; decide
  clear hs
  by_cases h0 : 0 ≤ r
  · have h1 : ¬ r < 128 := by omega
    clear hr
    go_enter Tryd.func80, Tryd.ntmps80
    go_wp2_with fail
    with_reducible refine H.out.mono ?_
    rintro e w' ⟨rfl, rfl⟩
    go_wp2_with fail
    go_ret
    exact ⟨rfl, Below.refl _ _⟩
  · clear hr
    go_enter Tryd.func80, Tryd.ntmps80
    go_wp2_with fail
    with_reducible refine H.out.mono ?_
    rintro e w' ⟨rfl, rfl⟩
    go_wp2_with fail
    go_ret
    exact ⟨rfl, Below.refl _ _⟩
theorem quiet_left_add {P : Program} {f : FuncId} {args : Array Value} {w : World} {a n : Nat} {v : Value}
    (h : Calls P f args (w.drewN (a + n)) fun e w' => e = .returned v ∧ w' = w.drewN (a + n)) : Calls P f args (w.drewN (a + n)) fun e w'' => e = .returned v ∧ ∃ m, w'' = w.drewN (a + m) :=
  h.mono fun _ _ ⟨he, hm⟩ => ⟨he, n, hm⟩
/-- the library's IndexByte where the octet does not occur -/
theorem ib_none (s : ByteArray) (c : UInt8) (h : ∀ y ∈ s.data.toList, y.toNat < 128) (hc : 128 ≤ c.toNat) (w : World) :
    Calls Tryd.prog 90 #[.string s, .int .u8 c.toNat] w fun e w' => e = .returned (.int .i64 (-1)) ∧ w' = w := by
  refine (Tryd.strings_IndexByte s c.toNat w).mono ?_
  rintro e w' ⟨rfl, h1⟩
  refine ⟨?_, h1⟩
  have e1 : (c.toNat : Int).toNat.toUInt8 = c := by simp
  rw [e1, idx_none _ _ fun y hy he => by subst he; have := h y hy; omega]

set_option maxRecDepth 100000 in
theorem idxr_2 (x : Int) (b0 b1 : UInt8) (hx : Utf8.encode x = ⟨#[b0, b1]⟩) (hs : (decide (0 ≤ x) && scal x.toNat) = true) (h1 : 128 ≤ x) (hn : x ≠ 65533) (hc : 128 ≤ ((⟨#[b0, b1]⟩ : ByteArray)[1]'(by show 1 < 2; omega)).toNat) (w : World) :
    Calls Tryd.prog 80 #[.string ⟨#[32, 39, 40, 41, 43, 44, 45, 46, 47, 58, 61, 63]⟩, .int .i32 x] w fun e w' => e = .returned (.int .i64 (-1)) ∧ Below w.heap.size w w' := by
  have H := Lib.hid (vrune_any x w)
  rw [hs] at H
  have hcv : (convert 21 9 (.int .i32 x)).run Tryd.prog w = .ok (.string ⟨#[b0, b1]⟩) w := by
    rw [run_convert_int_string w _ _ _ _ (by rw [Tryd.underlying21]; rfl) Tryd.underlying9, hx]
  have h0 : 0 ≤ x := by omega
  have h2 : ¬ x < 128 := by omega
  have HB := Lib.hid (fun s h w => ib_none s ((⟨#[b0, b1]⟩ : ByteArray)[1]'(by show 1 < 2; omega)) h hc w)
  have hq : ((((⟨#[32, 39, 40, 41, 43, 44, 45, 46, 47, 58, 61, 63]⟩ : ByteArray)[1]'(by decide)).toNat : Int) != (((⟨#[b0, b1]⟩ : ByteArray)[1]'(by show 1 < 2; omega)).toNat : Int)) = true := by
    show ((39 : Int) != (b1.toNat : Int)) = true
    rw [bne_iff_ne]
    have : 128 ≤ b1.toNat := hc
    omega
  clear hx hs h1 hc
  go_enter Tryd.func80, Tryd.ntmps80
  go_wp2_with fail
  with_reducible refine H.out.mono ?_
  rintro e w' ⟨rfl, rfl⟩
  go_wp2_with fail
  go_step3
  go_wp2_with fail
  go_loop [9] (fun v => v = .int .i64 1) (fun _ => 0)
  case atStart => rfl
  case round =>
    obtain rfl := hrel
    go_wp2_with fail
    go_step3
    go_wp2_with fail
    go_quiet (fail)
    go_wp2_with fail
    go_quiet ((go_at_call 90; exact quiet_left_add (HB.out _ (by decide +kernel) _)))
    go_wp2_with fail
    simp only [Exit.noGoto_ret]
    simp only [Exit.inBlock]
    change Exit.noGoto _ .ret _ _
    rw [Exit.noGoto_ret]
    simp only [Exit.inBlock, Exit.then, Exit.noGoto_ret]
    go_ret
    exact ⟨rfl, below_drewN (Below.refl _ _) _⟩

set_option maxRecDepth 100000 in
theorem idxr_3 (x : Int) (b0 b1 b2 : UInt8) (hx : Utf8.encode x = ⟨#[b0, b1, b2]⟩) (hs : (decide (0 ≤ x) && scal x.toNat) = true) (h1 : 128 ≤ x) (hn : x ≠ 65533) (hc : 128 ≤ ((⟨#[b0, b1, b2]⟩ : ByteArray)[2]'(by show 2 < 3; omega)).toNat) (w : World) :
    Calls Tryd.prog 80 #[.string ⟨#[32, 39, 40, 41, 43, 44, 45, 46, 47, 58, 61, 63]⟩, .int .i32 x] w fun e w' => e = .returned (.int .i64 (-1)) ∧ Below w.heap.size w w' := by
  have H := Lib.hid (vrune_any x w)
  rw [hs] at H
  have hcv : (convert 21 9 (.int .i32 x)).run Tryd.prog w = .ok (.string ⟨#[b0, b1, b2]⟩) w := by
    rw [run_convert_int_string w _ _ _ _ (by rw [Tryd.underlying21]; rfl) Tryd.underlying9, hx]
  have h0 : 0 ≤ x := by omega
  have h2 : ¬ x < 128 := by omega
  have HB := Lib.hid (fun s h w => ib_none s ((⟨#[b0, b1, b2]⟩ : ByteArray)[2]'(by show 2 < 3; omega)) h hc w)
  have hq : ((((⟨#[32, 39, 40, 41, 43, 44, 45, 46, 47, 58, 61, 63]⟩ : ByteArray)[2]'(by decide)).toNat : Int) != (((⟨#[b0, b1, b2]⟩ : ByteArray)[2]'(by show 2 < 3; omega)).toNat : Int)) = true := by
    show ((40 : Int) != (b2.toNat : Int)) = true
    rw [bne_iff_ne]
    have : 128 ≤ b2.toNat := hc
    omega
  clear hx hs h1 hc
  go_enter Tryd.func80, Tryd.ntmps80
  go_wp2_with fail
  with_reducible refine H.out.mono ?_
  rintro e w' ⟨rfl, rfl⟩
  go_wp2_with fail
  go_step3
  go_wp2_with fail
  go_loop [9] (fun v => v = .int .i64 2) (fun _ => 0)
  case atStart => rfl
  case round =>
    obtain rfl := hrel
    go_wp2_with fail
    go_step3
    go_wp2_with fail
    go_quiet (fail)
    go_wp2_with fail
    go_quiet ((go_at_call 90; exact quiet_left_add (HB.out _ (by decide +kernel) _)))
    go_wp2_with fail
    simp only [Exit.noGoto_ret]
    simp only [Exit.inBlock]
    change Exit.noGoto _ .ret _ _
    rw [Exit.noGoto_ret]
    simp only [Exit.inBlock, Exit.then, Exit.noGoto_ret]
    go_ret
    exact ⟨rfl, below_drewN (Below.refl _ _) _⟩

set_option maxRecDepth 100000 in
theorem idxr_4 (x : Int) (b0 b1 b2 b3 : UInt8) (hx : Utf8.encode x = ⟨#[b0, b1, b2, b3]⟩) (hs : (decide (0 ≤ x) && scal x.toNat) = true) (h1 : 128 ≤ x) (hn : x ≠ 65533) (hc : 128 ≤ ((⟨#[b0, b1, b2, b3]⟩ : ByteArray)[3]'(by show 3 < 4; omega)).toNat) (w : World) :
    Calls Tryd.prog 80 #[.string ⟨#[32, 39, 40, 41, 43, 44, 45, 46, 47, 58, 61, 63]⟩, .int .i32 x] w fun e w' => e = .returned (.int .i64 (-1)) ∧ Below w.heap.size w w' := by
  have H := Lib.hid (vrune_any x w)
  rw [hs] at H
  have hcv : (convert 21 9 (.int .i32 x)).run Tryd.prog w = .ok (.string ⟨#[b0, b1, b2, b3]⟩) w := by
    rw [run_convert_int_string w _ _ _ _ (by rw [Tryd.underlying21]; rfl) Tryd.underlying9, hx]
  have h0 : 0 ≤ x := by omega
  have h2 : ¬ x < 128 := by omega
  have HB := Lib.hid (fun s h w => ib_none s ((⟨#[b0, b1, b2, b3]⟩ : ByteArray)[3]'(by show 3 < 4; omega)) h hc w)
  have hq : ((((⟨#[32, 39, 40, 41, 43, 44, 45, 46, 47, 58, 61, 63]⟩ : ByteArray)[3]'(by decide)).toNat : Int) != (((⟨#[b0, b1, b2, b3]⟩ : ByteArray)[3]'(by show 3 < 4; omega)).toNat : Int)) = true := by
    show ((41 : Int) != (b3.toNat : Int)) = true
    rw [bne_iff_ne]
    have : 128 ≤ b3.toNat := hc
    omega
  clear hx hs h1 hc
  go_enter Tryd.func80, Tryd.ntmps80
  go_wp2_with fail
  with_reducible refine H.out.mono ?_
  rintro e w' ⟨rfl, rfl⟩
  go_wp2_with fail
  go_step3
  go_wp2_with fail
  go_loop [9] (fun v => v = .int .i64 3) (fun _ => 0)
  case atStart => rfl
  case round =>
    obtain rfl := hrel
    go_wp2_with fail
    go_step3
    go_wp2_with fail
    go_quiet (fail)
    go_wp2_with fail
    go_quiet ((go_at_call 90; exact quiet_left_add (HB.out _ (by decide +kernel) _)))
    go_wp2_with fail
    simp only [Exit.noGoto_ret]
    simp only [Exit.inBlock]
    change Exit.noGoto _ .ret _ _
    rw [Exit.noGoto_ret]
    simp only [Exit.inBlock, Exit.then, Exit.noGoto_ret]
    go_ret
    exact ⟨rfl, below_drewN (Below.refl _ _) _⟩

theorem p12_ascii {pos : Nat} (h : pos < 12) : ((⟨#[32, 39, 40, 41, 43, 44, 45, 46, 47, 58, 61, 63]⟩ : ByteArray)[pos]'h).toNat < 128 := by
  have ha : ∀ q : Fin 12, ((⟨#[32, 39, 40, 41, 43, 44, 45, 46, 47, 58, 61, 63]⟩ : ByteArray)[q.val]'q.isLt).toNat < 128 := by decide
  exact ha ⟨pos, h⟩
set_option maxRecDepth 100000 in
theorem idxr_fffd (w : World) :
    Calls Tryd.prog 80 #[.string ⟨#[32, 39, 40, 41, 43, 44, 45, 46, 47, 58, 61, 63]⟩, .int .i32 65533] w fun e w' => e = .returned (.int .i64 (-1)) ∧ Below w.heap.size w w' := by
  obtain ⟨K, hK⟩ : ∃ K, w.heap.size = K := ⟨_, rfl⟩
  go_enter Tryd.func80, Tryd.ntmps80
  go_wp2_with fail
  go_loopw [] (fun wr => ∃ pos, pos ≤ 12 ∧ wr.heap[K]? = some (.stringIter ⟨#[32, 39, 40, 41, 43, 44, 45, 46, 47, 58, 61, 63]⟩ pos) ∧ Below K w wr) (fun wr => 12 - wr.iterPos K)
  case atStart =>
    refine ⟨0, by omega, ?_, ?_⟩
    · rw [← hK]
      exact World.iter_heap w _ 0
    · rw [← hK]
      exact bal (Below.refl _ w) _
  case round =>
    obtain ⟨pos, hp, hit, hbw⟩ := hrel
    have hlt : K < wr.heap.size := (Array.getElem?_eq_some_iff.1 hit).1
    by_cases h : pos < 12
    · have hp1 : pos < (⟨#[32, 39, 40, 41, 43, 44, 45, 46, 47, 58, 61, 63]⟩ : ByteArray).size := h
      have ha1 := p12_ascii h
      have hnx := fun ty => Lib.run_next_ascii_at (P := Tryd.prog) wr K ⟨#[32, 39, 40, 41, 43, 44, 45, 46, 47, 58, 61, 63]⟩ pos ty hit hp1 ha1
      have hb2 := Lib.below_iterAt hbw (k := K) (Nat.le_refl _) ⟨#[32, 39, 40, 41, 43, 44, 45, 46, 47, 58, 61, 63]⟩ (pos + 1)
      have hit2 := Lib.iterAt_heap wr K ⟨#[32, 39, 40, 41, 43, 44, 45, 46, 47, 58, 61, 63]⟩ pos (pos + 1) hit
      have hne : ((((⟨#[32, 39, 40, 41, 43, 44, 45, 46, 47, 58, 61, 63]⟩ : ByteArray)[pos]'hp1).toNat : Int) == 65533) = false := by
        rw [beq_eq_false_iff_ne]
        intro e
        have : (⟨#[32, 39, 40, 41, 43, 44, 45, 46, 47, 58, 61, 63]⟩ : ByteArray)[pos].toNat < 128 := ha1
        omega
      go_wp2_with fail
      go_roundw
      case rel => exact ⟨pos + 1, by omega, hit2, hb2⟩
      case measure => simp only [World.iterPos, hit2, hit]; omega
    · have hp1 : ¬ pos < (⟨#[32, 39, 40, 41, 43, 44, 45, 46, 47, 58, 61, 63]⟩ : ByteArray).size := h
      have hnx := fun ty => Lib.run_next_end_at (P := Tryd.prog) wr K ⟨#[32, 39, 40, 41, 43, 44, 45, 46, 47, 58, 61, 63]⟩ pos ty hit hp1
      go_wp2_with fail
      go_ret
      exact ⟨rfl, by rw [hK]; exact hbw⟩
end Go.Proofs.YtkmpmphabohkkaaDoor
