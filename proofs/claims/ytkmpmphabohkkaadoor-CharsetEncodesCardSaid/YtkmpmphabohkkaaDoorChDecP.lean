/-
  Contract of the program's Decode.
-/
import Derived.Test.YtkmpmphabohkkaaDoorChTextP
import Derived.Test.YtkmpmphabohkkaaDoorChBestP
namespace Go.Proofs.YtkmpmphabohkkaaDoor
open Go.RowKit

theorem tdp_no {k : Int} {l : List UInt8} (h : ¬ 0 ≤ widK k) : tdK k l = 0 ∧ tdS k l = [] ∧ tdC k l = 3 := by
  have hd : decT k l = none := if_neg fun e => h e.1
  unfold tdK tdS tdC
  rw [hd, if_pos (by omega : widK k < 0)]
  exact ⟨rfl, rfl, rfl⟩
theorem tdp_bad {k : Int} {l : List UInt8} (h : 0 ≤ widK k) (hd : (decT k l).isSome = false) : tdK k l = 0 ∧ tdS k l = [] ∧ tdC k l = 6 := by
  have hd2 : decT k l = none := by rcases he : decT k l with _ | s; rfl; rw [he] at hd; cases hd
  unfold tdK tdS tdC
  rw [hd2, if_neg (by omega : ¬ widK k < 0)]
  exact ⟨rfl, rfl, rfl⟩
theorem tdp_yes {k : Int} {l : List UInt8} (h : 0 ≤ widK k) (hd : (decT k l).isSome = true) : tdK k l = k ∧ tdC k l = 0 := by
  unfold tdK tdC
  rw [hd, if_neg (by omega : ¬ widK k < 0)]
  exact ⟨rfl, rfl⟩

set_option maxRecDepth 100000 in
set_option maxHeartbeats 2000000 in
theorem tdec_any (k : Int) {w : World} (hW : Wd w) {a : Option Addr} {n c : Nat} {l : List UInt8} (h : Bs w a n c l) (hz : n ≤ 5000) :
    Calls Tryd.prog 16 #[.int .i64 k, .slice a n c] w fun e w' => e = .returned (.tuple #[tV (tdK k l) (tdS k l), .int .i64 (tdC k l)]) ∧ Below w.heap.size w w' := by
  have HT := Lib.hid (fun w => tbl_any w)
  have HL := Lib.hid (fun (w : World) (b : Nat) (h : w.heap[b]? = some (.map tblE 7)) => look_any h k)
  unfold tV at *
  obtain ⟨P, hP⟩ : ∃ P, w.heap.size = P := ⟨_, rfl⟩
  have HP : Hid (w.heap.size = P) := hP
  have Z1 := Lib.hid (Blk.new w 23 #[.int .i64 0, .string ⟨#[]⟩])
  rw [hP] at Z1
  have Q1 := Lib.hid (bal (Below.refl w.heap.size w) (.cells #[.int .i64 0, .string ⟨#[]⟩] 23))
  have B1 := Lib.hid (h.alloc (.cells #[.int .i64 0, .string ⟨#[]⟩] 23))
  by_cases hk : 0 ≤ widK k
  · have HX := Lib.hid (fun (w : World) (hw : Wd w) a c (h : Bs w a n c l) => text_any k hk hw h hz)
    obtain ⟨f, hf⟩ := fnK_yes hk
    rw [hf] at HL HX
    rw [decide_eq_true hk] at HL
    rcases hd : (decT k l).isSome with _ | _
    · rw [(tdp_bad hk hd).1, (tdp_bad hk hd).2.1, (tdp_bad hk hd).2.2]
      rw [hd] at HX
      generalize wdK k = N at *
      clear hf hk hd h
      go_enter Tryd.func16, Tryd.ntmps16
      go_wp2_with fail
      with_reducible refine (HT.out _).mono ?_
      rintro e w2 ⟨b, rfl, hb, q⟩
      have hl := HL.out w2 b hb
      have Z2 := Lib.hid (Z1.out.below q Z1.out.lt)
      have Q2 := Lib.hid (bthen Q1.out q)
      have B2 := Lib.hid (B1.out.below q)
      clear q hb
      have R3 := Lib.hid (Blk.new w2 47 #[Value.func (.func f) #[] #[], .int .i64 N])
      have Z3 := Lib.hid (Z2.out.alloc (.cells #[Value.func (.func f) #[] #[], .int .i64 N] 47))
      have Q3 := Lib.hid (bal Q2.out (.cells #[Value.func (.func f) #[] #[], .int .i64 N] 47))
      have B3 := Lib.hid (B2.out.alloc (.cells #[Value.func (.func f) #[] #[], .int .i64 N] 47))
      obtain ⟨A, hA⟩ : ∃ A, w2.heap.size = A := ⟨_, rfl⟩
      rw [hA] at R3
      go_wp2_with fail
      generalize w2.alloc (.cells #[Value.func (.func f) #[] #[], .int .i64 N] 47) = w3 at *
      clear hl
      obtain ⟨z0, z1, zl, zf⟩ := Z3.out.cells2
      obtain ⟨r0, r1, rl, rf⟩ := R3.out.cells2
      go_wp2_with fail
      with_reducible refine (HX.out _ (hW.below Q3.out) _ _ B3.out).mono ?_
      rintro e w4 ⟨s, rfl, hs, q⟩
      have Q4 := Lib.hid (bthen Q3.out q)
      have Z4 := Lib.hid (Z3.out.below q Z3.out.lt)
      clear q z0 z1 zl zf r0 r1 rl rf
      obtain ⟨z0, z1, zl, zf⟩ := Z4.out.cells2
      have ZF := Lib.hid (Z4.out.two (.int .i64 0) (.string ⟨#[]⟩))
      have QF := Lib.hid ((Q4.out.setCell (p := ⟨P, 0, none⟩) (Nat.le_of_eq HP.out) (.int .i64 0)).setCell (p := ⟨P, 1, none⟩) (Nat.le_of_eq HP.out) (.string ⟨#[]⟩))
      go_wp2_with fail
      generalize (World.setCell _ ⟨P, 1, none⟩ _) = w9 at *
      obtain ⟨y0, y1, _, _⟩ := ZF.out.cells2
      exact bodyPost_ret (v := .tuple #[.agg #[.int .i64 0, .string ⟨#[]⟩], .int .i64 6]) (by simp [results, Tryd.results16, go_sem, y0, y1]) rfl ⟨rfl, QF.out⟩
    · rw [(tdp_yes hk hd).1, (tdp_yes hk hd).2]
      rw [hd] at HX
      generalize wdK k = N at *
      generalize tdS k l = S at *
      clear hf hk hd h
      go_enter Tryd.func16, Tryd.ntmps16
      go_wp2_with fail
      with_reducible refine (HT.out _).mono ?_
      rintro e w2 ⟨b, rfl, hb, q⟩
      have hl := HL.out w2 b hb
      have Z2 := Lib.hid (Z1.out.below q Z1.out.lt)
      have Q2 := Lib.hid (bthen Q1.out q)
      have B2 := Lib.hid (B1.out.below q)
      clear q hb
      have R3 := Lib.hid (Blk.new w2 47 #[Value.func (.func f) #[] #[], .int .i64 N])
      have Z3 := Lib.hid (Z2.out.alloc (.cells #[Value.func (.func f) #[] #[], .int .i64 N] 47))
      have Q3 := Lib.hid (bal Q2.out (.cells #[Value.func (.func f) #[] #[], .int .i64 N] 47))
      have B3 := Lib.hid (B2.out.alloc (.cells #[Value.func (.func f) #[] #[], .int .i64 N] 47))
      obtain ⟨A, hA⟩ : ∃ A, w2.heap.size = A := ⟨_, rfl⟩
      rw [hA] at R3
      go_wp2_with fail
      generalize w2.alloc (.cells #[Value.func (.func f) #[] #[], .int .i64 N] 47) = w3 at *
      clear hl
      obtain ⟨z0, z1, zl, zf⟩ := Z3.out.cells2
      obtain ⟨r0, r1, rl, rf⟩ := R3.out.cells2
      go_wp2_with fail
      with_reducible refine (HX.out _ (hW.below Q3.out) _ _ B3.out).mono ?_
      rintro e w4 ⟨s, rfl, hs, q⟩
      have Q4 := Lib.hid (bthen Q3.out q)
      have Z4 := Lib.hid (Z3.out.below q Z3.out.lt)
      clear q z0 z1 zl zf r0 r1 rl rf
      obtain ⟨z0, z1, zl, zf⟩ := Z4.out.cells2
      obtain rfl : s = S := hs (by first | rfl | trivial)
      have ZF := Lib.hid (Z4.out.two (.int .i64 k) (.string ⟨s.toArray⟩))
      have QF := Lib.hid ((Q4.out.setCell (p := ⟨P, 0, none⟩) (Nat.le_of_eq HP.out) (.int .i64 k)).setCell (p := ⟨P, 1, none⟩) (Nat.le_of_eq HP.out) (.string ⟨s.toArray⟩))
      go_wp2_with fail
      generalize (World.setCell _ ⟨P, 1, none⟩ _) = w9 at *
      obtain ⟨y0, y1, _, _⟩ := ZF.out.cells2
      exact bodyPost_ret (v := .tuple #[.agg #[.int .i64 k, .string ⟨s.toArray⟩], .int .i64 0]) (by simp [results, Tryd.results16, go_sem, y0, y1]) rfl ⟨rfl, QF.out⟩
  · obtain ⟨e1, e2⟩ := fnK_no hk
    rw [e1, e2, decide_eq_false hk] at HL
    rw [(tdp_no (l := l) hk).1, (tdp_no (l := l) hk).2.1, (tdp_no (l := l) hk).2.2]
    clear e1 e2 hk h
    go_enter Tryd.func16, Tryd.ntmps16
    go_wp2_with fail
    with_reducible refine (HT.out _).mono ?_
    rintro e w2 ⟨b, rfl, hb, q⟩
    have hl := HL.out w2 b hb
    have Z2 := Lib.hid (Z1.out.below q Z1.out.lt)
    have Q2 := Lib.hid (bthen Q1.out q)
    have B2 := Lib.hid (B1.out.below q)
    clear q hb
    have R3 := Lib.hid (Blk.new w2 47 #[Value.nilFunc, .int .i64 0])
    have Z3 := Lib.hid (Z2.out.alloc (.cells #[Value.nilFunc, .int .i64 0] 47))
    have Q3 := Lib.hid (bal Q2.out (.cells #[Value.nilFunc, .int .i64 0] 47))
    have B3 := Lib.hid (B2.out.alloc (.cells #[Value.nilFunc, .int .i64 0] 47))
    obtain ⟨A, hA⟩ : ∃ A, w2.heap.size = A := ⟨_, rfl⟩
    rw [hA] at R3
    obtain ⟨z0, z1, zl, zf⟩ := Z3.out.cells2
    obtain ⟨r0, r1, rl, rf⟩ := R3.out.cells2
    have ZF := Lib.hid (Z3.out.two (.int .i64 0) (.string ⟨#[]⟩))
    have QF := Lib.hid ((Q3.out.setCell (p := ⟨P, 0, none⟩) (Nat.le_of_eq HP.out) (.int .i64 0)).setCell (p := ⟨P, 1, none⟩) (Nat.le_of_eq HP.out) (.string ⟨#[]⟩))
    go_wp2_with fail
    generalize (World.setCell _ ⟨P, 1, none⟩ _) = w9 at *
    obtain ⟨y0, y1, _, _⟩ := ZF.out.cells2
    exact bodyPost_ret (v := .tuple #[.agg #[.int .i64 0, .string ⟨#[]⟩], .int .i64 3]) (by simp [results, Tryd.results16, go_sem, y0, y1]) rfl ⟨rfl, QF.out⟩
end Go.Proofs.YtkmpmphabohkkaaDoor
