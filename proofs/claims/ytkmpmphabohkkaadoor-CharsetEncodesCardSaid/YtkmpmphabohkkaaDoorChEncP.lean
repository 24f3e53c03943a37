/-
  Contract of the program's Encode.
-/
import Derived.Test.YtkmpmphabohkkaaDoorChValidP
namespace Go.Proofs.YtkmpmphabohkkaaDoor
open Go.RowKit

theorem octs_any (F : Value) (k : Int) (s : List UInt8) (hz : s.length ≤ 1000000) (hv : vT k s = true) (w : World) :
    Calls Tryd.prog 29 #[.agg #[F, .int .i64 (wdK k)], .string ⟨s.toArray⟩] w fun e w' => ∃ a c, e = .returned (.slice a (teL k s).length c) ∧ Bs w' a (teL k s).length c (teL k s) ∧ Below w.heap.size w w' := by
  obtain ⟨L, h1, h2, h3, h4, rfl, h6⟩ := vT_some hv
  have e1 : wdK k = widK k := if_pos h3
  rw [(te_yes hv).1, h2, e1]
  rcases wid_is h3 with h | h | h | h
  · rw [h, octL_utf]; exact octs_0 F _ hz w
  · rw [h]; exact octs_1 F L h6 hz w
  · rw [h]; exact octs_2 F L h6 hz w
  · rw [h]; exact octs_4 F L h6 hz w

set_option maxRecDepth 100000 in
set_option maxHeartbeats 2000000 in
theorem tenc_any (k : Int) (s : List UInt8) (hz : s.length ≤ 10000) (w : World) (hW : Wd w) :
    Calls Tryd.prog 9 #[tV k s] w fun e w' => ∃ a c, e = .returned (.tuple #[.slice a (teL k s).length c, .int .i64 (teC k s)]) ∧ Bs w' a (teL k s).length c (teL k s) ∧ Below w.heap.size w w' := by
  have HT := Lib.hid (fun w => tbl_any w)
  have HL := Lib.hid (fun (w : World) (b : Nat) (h : w.heap[b]? = some (.map tblE 7)) => look_any h k)
  unfold tV at *
  obtain ⟨T, hT⟩ : ∃ T, w.heap.size = T := ⟨_, rfl⟩
  have Z1 := Lib.hid (Blk.new w 23 #[.int .i64 k, .string ⟨s.toArray⟩])
  rw [hT] at Z1
  have Q1 := Lib.hid (bal (Below.refl w.heap.size w) (.cells #[.int .i64 k, .string ⟨s.toArray⟩] 23))
  by_cases hk : 0 ≤ widK k
  · have HA := Lib.hid (fun w hw => hasall_any k hk s (by omega) w hw)
    obtain ⟨f, hf⟩ := fnK_yes hk
    rw [hf] at HL HA
    rw [decide_eq_true hk] at HL
    rcases hv : vT k s with _ | _
    · rw [hv] at HA
      rw [(te_no hv).1, (te_no hv).2]
      generalize wdK k = N at *
      clear hf hk hv
      go_enter Tryd.func9, Tryd.ntmps9
      go_wp2_with fail
      generalize w.alloc (.cells #[.int .i64 k, .string ⟨s.toArray⟩] 23) = w1 at *
      obtain ⟨z0, z1, zl, zf⟩ := Z1.out.cells2
      have n0 := World.new_ne w1 ⟨T, 0, none⟩ z0
      go_region_held3 (fun w' => w'.cell? ⟨T, 0, none⟩ = some (.int .i64 k)) (go_keep)
        (first
         | (go_at_call 27; (with_reducible refine (HT.out _).mono ?_); rintro e w2 ⟨b, rfl, hb, q⟩; have c2 : w2.cell? ⟨T, 0, none⟩ = some (.int .i64 k) := (q.cell (p := ⟨T, 0, none⟩) (by simp; omega)).trans (by go_keep); have l1 := HL.out w2 b hb; have l2 := HL.out (w2.alloc (.cells #[.nilFunc, .int .i64 0] 47)) b ((Below.heap_alloc _ _ _ (Array.getElem?_eq_some_iff.1 hb).1).trans hb); have n2 := World.new_ne w2 _ c2; obtain ⟨b0, b1, bl, bf⟩ := (Blk.new w2 47 #[.nilFunc, .int .i64 0]).cells2; try (have A2 : Blk w2 w1.heap.size 47 #[.nilFunc, .int .i64 0] := (q.block w1.heap.size (by simp)).trans (MapKept.heap_alloc _ _).1; obtain ⟨a0, a1, al, af⟩ := A2.cells2)))
      · have Z2 := (Z1.out.drewN 1).below q (Z1.out.drewN 1).lt
        have ZF := Lib.hid (Z2.alloc (.cells #[Value.func (.func f) #[] #[], .int .i64 N] 47))
        have RF := Lib.hid (Blk.new w2 47 #[Value.func (.func f) #[] #[], .int .i64 N])
        have QF := Lib.hid (bal (bthen Q1.out.drew q) (.cells #[Value.func (.func f) #[] #[], .int .i64 N] 47))
        clear q hb c2 l1 l2 n2 b0 b1 bl bf
        generalize w2.alloc (.cells #[Value.func (.func f) #[] #[], .int .i64 N] 47) = w5 at *
        generalize w2.heap.size = A at *
        obtain ⟨z0, z1, zl, zf⟩ := ZF.out.cells2
        obtain ⟨r0, r1, rl, rf⟩ := RF.out.cells2
        skip
        go_wp2_with fail
        with_reducible refine (HA.out _ (hW.below QF.out)).mono ?_
        rintro e w6 ⟨rfl, q⟩
        have Q6 := Lib.hid (bthen QF.out q)
        clear q
        go_wp2_with fail
        go_ret2
        exact ⟨none, 0, rfl, Bs.nil_ _, Q6.out⟩
      · have Z2 := (Z1.out.drewN 1).below q (Z1.out.drewN 1).lt
        have ZF := Lib.hid (Z2.alloc (.cells #[Value.func (.func f) #[] #[], .int .i64 N] 47))
        have RF := Lib.hid (Blk.new w2 47 #[Value.func (.func f) #[] #[], .int .i64 N])
        have QF := Lib.hid (bal (bthen Q1.out.drew q) (.cells #[Value.func (.func f) #[] #[], .int .i64 N] 47))
        clear q hb c2 l1 l2 n2 b0 b1 bl bf
        generalize w2.alloc (.cells #[Value.func (.func f) #[] #[], .int .i64 N] 47) = w5 at *
        generalize w2.heap.size = A at *
        obtain ⟨z0, z1, zl, zf⟩ := ZF.out.cells2
        obtain ⟨r0, r1, rl, rf⟩ := RF.out.cells2
        skip
        go_wp2_with fail
        with_reducible refine (HA.out _ (hW.below QF.out)).mono ?_
        rintro e w6 ⟨rfl, q⟩
        have Q6 := Lib.hid (bthen QF.out q)
        clear q
        go_wp2_with fail
        go_ret2
        exact ⟨none, 0, rfl, Bs.nil_ _, Q6.out⟩
      · have Z2 := ((Z1.out.drewN 1).alloc (.cells #[.nilFunc, .int .i64 0] 47)).below q (by simp; omega)
        have RF := Lib.hid (A2.two (Value.func (.func f) #[] #[]) (.int .i64 N))
        have ZF := Lib.hid ((Z2.far (p := ⟨w1.heap.size, 0, none⟩) (Nat.ne_of_lt zl) (Value.func (.func f) #[] #[])).far (p := ⟨w1.heap.size, 1, none⟩) (Nat.ne_of_lt zl) (.int .i64 N))
        have QF := Lib.hid (((bthen (bal Q1.out.drew (.cells #[.nilFunc, .int .i64 0] 47)) q).setCell (p := ⟨w1.heap.size, 0, none⟩) Q1.out.size (Value.func (.func f) #[] #[])).setCell (p := ⟨w1.heap.size, 1, none⟩) Q1.out.size (.int .i64 N))
        clear q hb c2 l1 l2 n2 b0 b1 bl bf A2 a0 a1 al af
        generalize (World.setCell _ ⟨w1.heap.size, 1, none⟩ _) = w5 at *
        generalize w1.heap.size = A at *
        obtain ⟨z0, z1, zl, zf⟩ := ZF.out.cells2
        obtain ⟨r0, r1, rl, rf⟩ := RF.out.cells2
        skip
        go_wp2_with fail
        with_reducible refine (HA.out _ (hW.below QF.out)).mono ?_
        rintro e w6 ⟨rfl, q⟩
        have Q6 := Lib.hid (bthen QF.out q)
        clear q
        go_wp2_with fail
        go_ret2
        exact ⟨none, 0, rfl, Bs.nil_ _, Q6.out⟩
    · have HO := Lib.hid (fun w => octs_any (Value.func (.func f) #[] #[]) k s (by omega) hv w)
      rw [hv] at HA
      rw [(te_yes hv).2]
      generalize teL k s = E at *
      generalize wdK k = N at *
      clear hf hk hv
      go_enter Tryd.func9, Tryd.ntmps9
      go_wp2_with fail
      generalize w.alloc (.cells #[.int .i64 k, .string ⟨s.toArray⟩] 23) = w1 at *
      obtain ⟨z0, z1, zl, zf⟩ := Z1.out.cells2
      have n0 := World.new_ne w1 ⟨T, 0, none⟩ z0
      go_region_held3 (fun w' => w'.cell? ⟨T, 0, none⟩ = some (.int .i64 k)) (go_keep)
        (first
         | (go_at_call 27; (with_reducible refine (HT.out _).mono ?_); rintro e w2 ⟨b, rfl, hb, q⟩; have c2 : w2.cell? ⟨T, 0, none⟩ = some (.int .i64 k) := (q.cell (p := ⟨T, 0, none⟩) (by simp; omega)).trans (by go_keep); have l1 := HL.out w2 b hb; have l2 := HL.out (w2.alloc (.cells #[.nilFunc, .int .i64 0] 47)) b ((Below.heap_alloc _ _ _ (Array.getElem?_eq_some_iff.1 hb).1).trans hb); have n2 := World.new_ne w2 _ c2; obtain ⟨b0, b1, bl, bf⟩ := (Blk.new w2 47 #[.nilFunc, .int .i64 0]).cells2; try (have A2 : Blk w2 w1.heap.size 47 #[.nilFunc, .int .i64 0] := (q.block w1.heap.size (by simp)).trans (MapKept.heap_alloc _ _).1; obtain ⟨a0, a1, al, af⟩ := A2.cells2)))
      · have Z2 := (Z1.out.drewN 1).below q (Z1.out.drewN 1).lt
        have ZF := Lib.hid (Z2.alloc (.cells #[Value.func (.func f) #[] #[], .int .i64 N] 47))
        have RF := Lib.hid (Blk.new w2 47 #[Value.func (.func f) #[] #[], .int .i64 N])
        have QF := Lib.hid (bal (bthen Q1.out.drew q) (.cells #[Value.func (.func f) #[] #[], .int .i64 N] 47))
        clear q hb c2 l1 l2 n2 b0 b1 bl bf
        generalize w2.alloc (.cells #[Value.func (.func f) #[] #[], .int .i64 N] 47) = w5 at *
        generalize w2.heap.size = A at *
        obtain ⟨z0, z1, zl, zf⟩ := ZF.out.cells2
        obtain ⟨r0, r1, rl, rf⟩ := RF.out.cells2
        skip
        go_wp2_with fail
        with_reducible refine (HA.out _ (hW.below QF.out)).mono ?_
        rintro e w6 ⟨rfl, q⟩
        have Q6 := Lib.hid (bthen QF.out q)
        have Z6 := Lib.hid (ZF.out.below q ZF.out.lt)
        have R6 := Lib.hid (RF.out.below q RF.out.lt)
        clear q z0 z1 zl zf r0 r1 rl rf
        obtain ⟨z0, z1, zl, zf⟩ := Z6.out.cells2
        obtain ⟨r0, r1, rl, rf⟩ := R6.out.cells2
        go_wp2_with fail
        with_reducible refine (HO.out _).mono ?_
        rintro e w7 ⟨a, c, rfl, hb, q⟩
        have Q7 := Lib.hid (bthen Q6.out q)
        have B7 := Lib.hid hb
        clear q hb
        go_wp2_with fail
        go_ret2
        exact ⟨a, c, rfl, B7.out, Q7.out⟩
      · have Z2 := (Z1.out.drewN 1).below q (Z1.out.drewN 1).lt
        have ZF := Lib.hid (Z2.alloc (.cells #[Value.func (.func f) #[] #[], .int .i64 N] 47))
        have RF := Lib.hid (Blk.new w2 47 #[Value.func (.func f) #[] #[], .int .i64 N])
        have QF := Lib.hid (bal (bthen Q1.out.drew q) (.cells #[Value.func (.func f) #[] #[], .int .i64 N] 47))
        clear q hb c2 l1 l2 n2 b0 b1 bl bf
        generalize w2.alloc (.cells #[Value.func (.func f) #[] #[], .int .i64 N] 47) = w5 at *
        generalize w2.heap.size = A at *
        obtain ⟨z0, z1, zl, zf⟩ := ZF.out.cells2
        obtain ⟨r0, r1, rl, rf⟩ := RF.out.cells2
        skip
        go_wp2_with fail
        with_reducible refine (HA.out _ (hW.below QF.out)).mono ?_
        rintro e w6 ⟨rfl, q⟩
        have Q6 := Lib.hid (bthen QF.out q)
        have Z6 := Lib.hid (ZF.out.below q ZF.out.lt)
        have R6 := Lib.hid (RF.out.below q RF.out.lt)
        clear q z0 z1 zl zf r0 r1 rl rf
        obtain ⟨z0, z1, zl, zf⟩ := Z6.out.cells2
        obtain ⟨r0, r1, rl, rf⟩ := R6.out.cells2
        go_wp2_with fail
        with_reducible refine (HO.out _).mono ?_
        rintro e w7 ⟨a, c, rfl, hb, q⟩
        have Q7 := Lib.hid (bthen Q6.out q)
        have B7 := Lib.hid hb
        clear q hb
        go_wp2_with fail
        go_ret2
        exact ⟨a, c, rfl, B7.out, Q7.out⟩
      · have Z2 := ((Z1.out.drewN 1).alloc (.cells #[.nilFunc, .int .i64 0] 47)).below q (by simp; omega)
        have RF := Lib.hid (A2.two (Value.func (.func f) #[] #[]) (.int .i64 N))
        have ZF := Lib.hid ((Z2.far (p := ⟨w1.heap.size, 0, none⟩) (Nat.ne_of_lt zl) (Value.func (.func f) #[] #[])).far (p := ⟨w1.heap.size, 1, none⟩) (Nat.ne_of_lt zl) (.int .i64 N))
        have QF := Lib.hid (((bthen (bal Q1.out.drew (.cells #[.nilFunc, .int .i64 0] 47)) q).setCell (p := ⟨w1.heap.size, 0, none⟩) Q1.out.size (Value.func (.func f) #[] #[])).setCell (p := ⟨w1.heap.size, 1, none⟩) Q1.out.size (.int .i64 N))
        clear q hb c2 l1 l2 n2 b0 b1 bl bf A2 a0 a1 al af
        generalize (World.setCell _ ⟨w1.heap.size, 1, none⟩ _) = w5 at *
        generalize w1.heap.size = A at *
        obtain ⟨z0, z1, zl, zf⟩ := ZF.out.cells2
        obtain ⟨r0, r1, rl, rf⟩ := RF.out.cells2
        skip
        go_wp2_with fail
        with_reducible refine (HA.out _ (hW.below QF.out)).mono ?_
        rintro e w6 ⟨rfl, q⟩
        have Q6 := Lib.hid (bthen QF.out q)
        have Z6 := Lib.hid (ZF.out.below q ZF.out.lt)
        have R6 := Lib.hid (RF.out.below q RF.out.lt)
        clear q z0 z1 zl zf r0 r1 rl rf
        obtain ⟨z0, z1, zl, zf⟩ := Z6.out.cells2
        obtain ⟨r0, r1, rl, rf⟩ := R6.out.cells2
        go_wp2_with fail
        with_reducible refine (HO.out _).mono ?_
        rintro e w7 ⟨a, c, rfl, hb, q⟩
        have Q7 := Lib.hid (bthen Q6.out q)
        have B7 := Lib.hid hb
        clear q hb
        go_wp2_with fail
        go_ret2
        exact ⟨a, c, rfl, B7.out, Q7.out⟩
  · have hv : vT k s = false := vT_wid (by omega)
    rw [(te_no hv).1, (te_no hv).2]
    obtain ⟨e1, e2⟩ := fnK_no hk
    rw [e1, e2, decide_eq_false hk] at HL
    clear hv e1 e2 hk
    go_enter Tryd.func9, Tryd.ntmps9
    go_wp2_with fail
    generalize w.alloc (.cells #[.int .i64 k, .string ⟨s.toArray⟩] 23) = w1 at *
    obtain ⟨z0, z1, zl, zf⟩ := Z1.out.cells2
    have n0 := World.new_ne w1 ⟨T, 0, none⟩ z0
    go_region_held3 (fun w' => w'.cell? ⟨T, 0, none⟩ = some (.int .i64 k)) (go_keep)
      (first
       | (go_at_call 27; (with_reducible refine (HT.out _).mono ?_); rintro e w2 ⟨b, rfl, hb, q⟩; have c2 : w2.cell? ⟨T, 0, none⟩ = some (.int .i64 k) := (q.cell (p := ⟨T, 0, none⟩) (by simp; omega)).trans (by go_keep); have l1 := HL.out w2 b hb; have l2 := HL.out (w2.alloc (.cells #[.nilFunc, .int .i64 0] 47)) b ((Below.heap_alloc _ _ _ (Array.getElem?_eq_some_iff.1 hb).1).trans hb); have n2 := World.new_ne w2 _ c2; obtain ⟨b0, b1, bl, bf⟩ := (Blk.new w2 47 #[.nilFunc, .int .i64 0]).cells2; try (have A2 : Blk w2 w1.heap.size 47 #[.nilFunc, .int .i64 0] := (q.block w1.heap.size (by simp)).trans (MapKept.heap_alloc _ _).1; obtain ⟨a0, a1, al, af⟩ := A2.cells2)))
    · have Z2 := (Z1.out.drewN 1).below q (Z1.out.drewN 1).lt
      have ZF := Lib.hid (Z2.alloc (.cells #[Value.nilFunc, .int .i64 0] 47))
      have RF := Lib.hid (Blk.new w2 47 #[Value.nilFunc, .int .i64 0])
      have QF := Lib.hid (bal (bthen Q1.out.drew q) (.cells #[Value.nilFunc, .int .i64 0] 47))
      clear q hb c2 l1 l2 n2 b0 b1 bl bf
      generalize w2.alloc (.cells #[Value.nilFunc, .int .i64 0] 47) = w5 at *
      generalize w2.heap.size = A at *
      obtain ⟨z0, z1, zl, zf⟩ := ZF.out.cells2
      obtain ⟨r0, r1, rl, rf⟩ := RF.out.cells2
      go_wp2_with fail
      go_ret2
      exact ⟨none, 0, rfl, Bs.nil_ _, QF.out⟩
    · have Z2 := (Z1.out.drewN 1).below q (Z1.out.drewN 1).lt
      have ZF := Lib.hid (Z2.alloc (.cells #[Value.nilFunc, .int .i64 0] 47))
      have RF := Lib.hid (Blk.new w2 47 #[Value.nilFunc, .int .i64 0])
      have QF := Lib.hid (bal (bthen Q1.out.drew q) (.cells #[Value.nilFunc, .int .i64 0] 47))
      clear q hb c2 l1 l2 n2 b0 b1 bl bf
      generalize w2.alloc (.cells #[Value.nilFunc, .int .i64 0] 47) = w5 at *
      generalize w2.heap.size = A at *
      obtain ⟨z0, z1, zl, zf⟩ := ZF.out.cells2
      obtain ⟨r0, r1, rl, rf⟩ := RF.out.cells2
      go_wp2_with fail
      go_ret2
      exact ⟨none, 0, rfl, Bs.nil_ _, QF.out⟩
    · have Z2 := ((Z1.out.drewN 1).alloc (.cells #[.nilFunc, .int .i64 0] 47)).below q (by simp; omega)
      have RF := Lib.hid (A2.two (Value.nilFunc) (.int .i64 0))
      have ZF := Lib.hid ((Z2.far (p := ⟨w1.heap.size, 0, none⟩) (Nat.ne_of_lt zl) (Value.nilFunc)).far (p := ⟨w1.heap.size, 1, none⟩) (Nat.ne_of_lt zl) (.int .i64 0))
      have QF := Lib.hid (((bthen (bal Q1.out.drew (.cells #[.nilFunc, .int .i64 0] 47)) q).setCell (p := ⟨w1.heap.size, 0, none⟩) Q1.out.size (Value.nilFunc)).setCell (p := ⟨w1.heap.size, 1, none⟩) Q1.out.size (.int .i64 0))
      clear q hb c2 l1 l2 n2 b0 b1 bl bf A2 a0 a1 al af
      generalize (World.setCell _ ⟨w1.heap.size, 1, none⟩ _) = w5 at *
      generalize w1.heap.size = A at *
      obtain ⟨z0, z1, zl, zf⟩ := ZF.out.cells2
      obtain ⟨r0, r1, rl, rf⟩ := RF.out.cells2
      go_wp2_with fail
      go_ret2
      exact ⟨none, 0, rfl, Bs.nil_ _, QF.out⟩
end Go.Proofs.YtkmpmphabohkkaaDoor
