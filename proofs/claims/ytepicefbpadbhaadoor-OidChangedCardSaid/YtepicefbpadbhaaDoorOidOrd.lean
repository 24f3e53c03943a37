/-
  Contracts of Valid, Compare, Under (of the program, of the reference), and of the law's comparison of arcs.
-/
import Derived.Test.YtepicefbpadbhaaDoorOidCmp
import Derived.Test.YtepicefbpadbhaaDoorOidEncMath
namespace Go.Proofs.YtepicefbpadbhaaDoor
open Go.RowKit

theorem val_some {l : List UInt8} {L : List Nat} (h : arcsO l = some L) : valO l = true := by unfold valO; rw [h]; rfl
theorem val_none {l : List UInt8} (h : arcsO l = none) : valO l = false := by unfold valO; rw [h]; rfl
theorem cmpO_both {a b : List UInt8} {x y : List Nat} (ha : arcsO a = some x) (hb : arcsO b = some y) : cmpO a b = lexN x y := by unfold cmpO; rw [ha, hb]
theorem cmpO_left {a b : List UInt8} (ha : arcsO a = none) : cmpO a b = 0 := by unfold cmpO; rw [ha]
theorem cmpO_right {a b : List UInt8} (hb : arcsO b = none) : cmpO a b = 0 := by
  unfold cmpO
  rw [hb]
  cases arcsO a <;> rfl
theorem undO_both {s p : List UInt8} {x y : List Nat} (hs : arcsO s = some x) (hp : arcsO p = some y) : undO s p = eqN y (x.take y.length) := by
  unfold undO eqN
  rw [hs, hp]
  exact decide_eq_decide.2 List.prefix_iff_eq_take
theorem undO_left {s p : List UInt8} (hs : arcsO s = none) : undO s p = false := by unfold undO; rw [hs]
theorem undO_right {s p : List UInt8} (hp : arcsO p = none) : undO s p = false := by
  unfold undO
  rw [hp]
  cases arcsO s <;> rfl
theorem undO_short {s p : List UInt8} {x y : List Nat} (hs : arcsO s = some x) (hp : arcsO p = some y) (h : x.length < y.length) : undO s p = false := by
  rw [undO_both hs hp]
  refine eqN_len ?_
  rw [List.length_take]
  omega

set_option maxRecDepth 100000 in
theorem valid_any (w : World) (hW : Wd w) (l : List UInt8) (hz : l.length ≤ 10000) : Calls Tryd.prog 14 #[.string ⟨l.toArray⟩] w fun e w' => e = .returned (.bool (valO l)) ∧ Below w.heap.size w w' := by
  have HA := Lib.hid (arcs_any w hW l (by omega))
  rcases hp : arcsO l with _ | L
  · rw [(arc_none hp).1, (arc_none hp).2] at HA
    rw [val_none hp]
    clear hp
    go_enter Tryd.func14, Tryd.ntmps14
    go_wp2_with fail
    refine HA.out.mono ?_
    rintro e w2 ⟨a, c, rfl, _, hb⟩
    go_wp2
    go_ret
    exact ⟨rfl, hb⟩
  · rw [(arc_some hp).1, (arc_some hp).2] at HA
    rw [val_some hp]
    clear hp
    go_enter Tryd.func14, Tryd.ntmps14
    go_wp2_with fail
    refine HA.out.mono ?_
    rintro e w2 ⟨a, c, rfl, _, hb⟩
    go_wp2
    go_ret
    exact ⟨rfl, hb⟩
set_option maxRecDepth 100000 in
theorem refValid_any (w : World) (l : List UInt8) (hz : l.length ≤ 10000) : Calls Tryd.prog 15 #[.string ⟨l.toArray⟩] w fun e w' => e = .returned (.bool (valO l)) ∧ Below w.heap.size w w' := by
  have HA := Lib.hid (refArcs_any w l (by omega))
  rcases hp : arcsO l with _ | L
  · rw [(arc_none hp).1, (arc_none hp).2] at HA
    rw [val_none hp]
    clear hp
    go_enter Tryd.func15, Tryd.ntmps15
    go_wp2_with fail
    refine HA.out.mono ?_
    rintro e w2 ⟨a, c, rfl, _, hb⟩
    go_wp2
    go_ret
    exact ⟨rfl, hb⟩
  · rw [(arc_some hp).1, (arc_some hp).2] at HA
    rw [val_some hp]
    clear hp
    go_enter Tryd.func15, Tryd.ntmps15
    go_wp2_with fail
    refine HA.out.mono ?_
    rintro e w2 ⟨a, c, rfl, _, hb⟩
    go_wp2
    go_ret
    exact ⟨rfl, hb⟩

set_option maxRecDepth 100000 in
set_option maxHeartbeats 2000000 in
theorem compare_any (w : World) (hW : Wd w) (p q : List UInt8) (hp : p.length ≤ 10000) (hq : q.length ≤ 10000) : Calls Tryd.prog 21 #[.string ⟨p.toArray⟩, .string ⟨q.toArray⟩] w fun e w' => e = .returned (.int .i64 (cmpO p q)) ∧ Below w.heap.size w w' := by
  have HA := Lib.hid (arcs_any w hW p (by omega))
  have HB : Hid (∀ w2, Below w.heap.size w w2 → Calls Tryd.prog 9 #[.string ⟨q.toArray⟩] w2 fun e w' => ∃ a c, e = .returned (.tuple #[.slice a (arcL q).length c, .int .i64 (arcC q)]) ∧ OwnK .u32 w' w2.heap.size 45 a (arcL q).length c (arcL q) ∧ Below w2.heap.size w2 w') := fun w2 h2 => arcs_any w2 (hW.below h2) q (by omega)
  have hlp := arcL_len p
  have hlq := arcL_len q
  rcases ha : arcsO p with _ | x
  · rw [(arc_none ha).1, (arc_none ha).2] at HA
    rw [cmpO_left ha]
    clear ha
    go_enter Tryd.func21, Tryd.ntmps21
    go_wp2_with fail
    refine HA.out.mono ?_
    rintro e w2 ⟨a, c, rfl, _, hb⟩
    go_wp2_with fail
    refine (HB.out _ hb).mono ?_
    rintro e w3 ⟨a3, c3, rfl, _, hb3⟩
    go_wp2
    go_ret
    exact ⟨rfl, bthen hb hb3⟩
  · rw [(arc_some ha).1, (arc_some ha).2] at HA
    rcases hb : arcsO q with _ | y
    · rw [(arc_none hb).1, (arc_none hb).2] at HB
      rw [cmpO_right hb]
      clear ha hb
      go_enter Tryd.func21, Tryd.ntmps21
      go_wp2_with fail
      refine HA.out.mono ?_
      rintro e w2 ⟨a, c, rfl, _, hb⟩
      go_wp2_with fail
      refine (HB.out _ hb).mono ?_
      rintro e w3 ⟨a3, c3, rfl, _, hb3⟩
      go_wp2
      go_ret
      exact ⟨rfl, bthen hb hb3⟩
    · rw [(arc_some hb).1, (arc_some hb).2] at HB
      rw [(arc_some ha).2] at hlp
      rw [(arc_some hb).2] at hlq
      rw [cmpO_both ha hb]
      clear ha hb
      go_enter Tryd.func21, Tryd.ntmps21
      go_wp2_with fail
      refine HA.out.mono ?_
      rintro e w2 ⟨a, c, rfl, ho, hb⟩
      go_wp2_with fail
      refine (HB.out _ hb).mono ?_
      rintro e w3 ⟨a3, c3, rfl, ho3, hb3⟩
      have HC := Lib.hid (sliceCompare_any (ho.uk.below hb3) ho3.uk (by omega) (by omega))
      have HBB := Lib.hid (bthen hb hb3)
      clear ho ho3 hb hb3
      go_wp2_with fail
      refine HC.out.mono ?_
      rintro e w4 ⟨rfl, rfl⟩
      go_wp2
      go_ret
      exact ⟨rfl, HBB.out⟩

set_option maxRecDepth 100000 in
set_option maxHeartbeats 2000000 in
theorem under_any (w : World) (hW : Wd w) (p q : List UInt8) (hp : p.length ≤ 10000) (hq : q.length ≤ 10000) : Calls Tryd.prog 23 #[.string ⟨p.toArray⟩, .string ⟨q.toArray⟩] w fun e w' => e = .returned (.bool (undO p q)) ∧ Below w.heap.size w w' := by
  have HA := Lib.hid (arcs_any w hW p (by omega))
  have HB : Hid (∀ w2, Below w.heap.size w w2 → Calls Tryd.prog 9 #[.string ⟨q.toArray⟩] w2 fun e w' => ∃ a c, e = .returned (.tuple #[.slice a (arcL q).length c, .int .i64 (arcC q)]) ∧ OwnK .u32 w' w2.heap.size 45 a (arcL q).length c (arcL q) ∧ Below w2.heap.size w2 w') := fun w2 h2 => arcs_any w2 (hW.below h2) q (by omega)
  have hlp := arcL_len p
  have hlq := arcL_len q
  rcases ha : arcsO p with _ | x
  · rw [(arc_none ha).1, (arc_none ha).2] at HA
    rw [undO_left ha]
    clear ha
    go_enter Tryd.func23, Tryd.ntmps23
    go_wp2_with fail
    refine HA.out.mono ?_
    rintro e w2 ⟨a, c, rfl, _, hb⟩
    go_wp2_with fail
    refine (HB.out _ hb).mono ?_
    rintro e w3 ⟨a3, c3, rfl, _, hb3⟩
    go_wp2
    go_ret
    exact ⟨rfl, bthen hb hb3⟩
  · rw [(arc_some ha).1, (arc_some ha).2] at HA
    rcases hb : arcsO q with _ | y
    · rw [(arc_none hb).1, (arc_none hb).2] at HB
      rw [undO_right hb]
      clear ha hb
      go_enter Tryd.func23, Tryd.ntmps23
      go_wp2_with fail
      refine HA.out.mono ?_
      rintro e w2 ⟨a, c, rfl, _, hb⟩
      go_wp2_with fail
      refine (HB.out _ hb).mono ?_
      rintro e w3 ⟨a3, c3, rfl, _, hb3⟩
      go_wp2
      go_ret
      exact ⟨rfl, bthen hb hb3⟩
    · rw [(arc_some hb).1, (arc_some hb).2] at HB
      rw [(arc_some ha).2] at hlp
      rw [(arc_some hb).2] at hlq
      have HU := Lib.hid (undO_both ha hb)
      have HUS := fun h => Lib.hid (undO_short ha hb h)
      clear ha hb
      obtain ⟨n, hn⟩ : ∃ n, x.length = n := ⟨_, rfl⟩
      obtain ⟨m, hm⟩ : ∃ m, y.length = m := ⟨_, rfl⟩
      rw [hn] at HA hlp HUS
      rw [hm] at HB hlq HUS HU
      clear hn hm
      by_cases hlt : n < m
      · have HF := HUS hlt
        have hlt2 : (m : Int) > n := by omega
        clear HUS
        go_enter Tryd.func23, Tryd.ntmps23
        go_wp2_with fail
        refine HA.out.mono ?_
        rintro e w2 ⟨a, c, rfl, ho, hb⟩
        go_wp2_with fail
        refine (HB.out _ hb).mono ?_
        rintro e w3 ⟨a3, c3, rfl, ho3, hb3⟩
        clear ho ho3
        go_wp2
        go_ret
        exact ⟨by rw [HF.out]; rfl, bthen hb hb3⟩
      · have hlt2 : ¬ (m : Int) > n := by omega
        have hle : m ≤ n := by omega
        have hle2 : (m : Int) ≤ n := by omega
        clear HUS
        go_enter Tryd.func23, Tryd.ntmps23
        go_wp2_with fail
        refine HA.out.mono ?_
        rintro e w2 ⟨a, c, rfl, ho, hb⟩
        go_wp2_with fail
        refine (HB.out _ hb).mono ?_
        rintro e w3 ⟨a3, c3, rfl, ho3, hb3⟩
        have hcap := ho.cap.1
        have hcap2 := ho.cap.2
        have HC := Lib.hid (sliceEqual_any ho3.uk (uk_take (ho.uk.below hb3) hle) (by omega) (by omega))
        have HBB := Lib.hid (bthen hb hb3)
        clear ho ho3 hb hb3
        go_wp2_with fail
        refine HC.out.mono ?_
        rintro e w4 ⟨rfl, q, rfl⟩
        go_wp2
        go_ret
        exact ⟨by rw [HU.out]; rfl, below_drewN HBB.out _⟩
end Go.Proofs.YtepicefbpadbhaaDoor
