/-
  Contract of the reference's Encode.
-/
import Derived.Test.YtepicefbpadbhaaDoorOidEncMath
import Derived.Deep.RegionHeld3
namespace Go.Proofs.YtepicefbpadbhaaDoor
open Go.RowKit

set_option maxRecDepth 100000 in
set_option maxHeartbeats 4000000 in
theorem refEncode_any (w : World) (l : List UInt8) (hz : l.length ≤ 10000) : Calls Tryd.prog 17 #[.string ⟨l.toArray⟩] w fun e w' => ∃ a c, e = .returned (.tuple #[.slice a (eL l).length c, .int .i64 (eC l)]) ∧ Own w' w.heap.size 5 a (eL l).length c (eL l) ∧ Below w.heap.size w w' := by
  obtain ⟨i0, hi, hz0, hz1, hz2⟩ := info_parts info_u8
  have HA := Lib.hid (refArcs_any w l (by omega))
  rcases hp : arcsO l with _ | L
  · have HE := Lib.hid (e_none hp)
    rw [(arc_none hp).1, (arc_none hp).2] at HA
    clear hp
    go_enter Tryd.func17, Tryd.ntmps17
    go_wp2_with fail
    refine HA.out.mono ?_
    rintro e w2 ⟨a, c, rfl, _, hb⟩
    go_wp2
    go_ret2
    exact ⟨none, 0, by rw [HE.out.1, HE.out.2]; rfl, by rw [HE.out.2]; exact World.ownsRow_nil _ _ _ _, hb⟩
  · have HE := Lib.hid (e_some hp)
    rw [(arc_some hp).1, (arc_some hp).2] at HA
    obtain ⟨x, y, r, hL, hs⟩ := arcs_two hp
    have hlb := arcL_len l
    rw [(arc_some hp).2] at hlb
    have hbd := (arcs_some hp).1.2
    have HLEN := Lib.hid (eTo_len hbd hL hs)
    have HT2 : Hid (eTo L 2 = subO (40 * x + y) true) := by rw [Hid, hL]; exact eTo_two x y r
    have HALL := Lib.hid (eTo_all L)
    have HSUC : Hid (∀ k (hk : k < L.length), 2 ≤ k → eTo L (k + 1) = eTo L k ++ subO (L[k]'hk) true) := fun k hk h2 => eTo_succ hk h2
    have HXY : Hid (∀ h0 : 0 < L.length, L[0] = x) := by subst hL; intro _; rfl
    have HXY1 : Hid (∀ h0 : 1 < L.length, L[1] = y) := by subst hL; intro _; rfl
    obtain ⟨n, hn⟩ : ∃ n, L.length = n := ⟨_, rfl⟩
    have hn2 : 2 ≤ n := by rw [← hn, hL]; simp
    have HN := Lib.hid hn
    have hnb : (n : Int) ≤ 10001 := by omega
    have hn2' : (2 : Int) ≤ n := by omega
    rw [hn] at HA
    have HBD : Hid (∀ k (hk : k < L.length), L[k] ≤ 4294967295) := fun k hk => hbd _ (List.getElem_mem hk)
    have hx0 : (0 : Int) ≤ x := by omega
    have hy0 : (0 : Int) ≤ y := by omega
    have hs' : (40 : Int) * x + y ≤ 4294967295 := by omega
    have hw1 : IntKind.u64.wrap (x : Int) = x := by rw [IntKind.wrap_u64]; omega
    have hw2 : IntKind.u64.wrap (y : Int) = y := by rw [IntKind.wrap_u64]; omega
    have hw3 : IntKind.u64.wrap (40 * (x : Int)) = 40 * (x : Int) := by rw [IntKind.wrap_u64]; omega
    have hw4 : IntKind.u64.wrap (40 * (x : Int) + y) = ((40 * x + y : Nat) : Int) := by rw [IntKind.wrap_u64]; omega
    clear hp hlb hbd hL hn
    go_enter Tryd.func17, Tryd.ntmps17
    go_wp2_with fail
    refine HA.out.mono ?_
    rintro e w2 ⟨a, c, rfl, ho, hb⟩
    obtain ⟨g, rfl, hg0, hg1⟩ := ho.pos (by omega)
    have q0 := ho.cell (j := 0) (by rw [ho.len]; omega)
    have q1 := ho.cell (j := 1) (by rw [ho.len]; omega)
    rw [HXY.out (by rw [ho.len]; omega)] at q0
    rw [HXY1.out (by rw [ho.len]; omega)] at q1
    have HO := Lib.hid ho
    have HB := Lib.hid hb
    have hcap := ho.cap.1
    clear ho hb
    go_wp2_with fail
    obtain ⟨S, hS⟩ : ∃ S, 40 * x + y = S := ⟨_, rfl⟩
    rw [hS] at hw4 HT2
    have hSb : S ≤ 4294967295 := by omega
    have HBA := Lib.hid (fun w => base_any S S (Nat.le_refl _) hSb true w)
    have hn01 : 0 < n := by omega
    have hn11 : 1 < n := by omega
    have hn01' : (0 : Int) < n := by omega
    have hn11' : (1 : Int) < n := by omega
    clear hs hs' hS hSb hx0 hy0
    go_region_held3 (fun w' => w'.cell? ⟨g, 0, none⟩ = some (.int .u32 (x : Int)) ∧ w'.cell? ⟨g, 1, none⟩ = some (.int .u32 (y : Int))) (first | exact ⟨q0, q1⟩ | exact ⟨k0, k1⟩ | assumption)
      (first | (go_at_call 33; (with_reducible refine (HBA.out _).mono ?_); rintro e w3 ⟨a3, c3, rfl, ho3, hb3⟩; have O3 := Lib.hid ho3; have B3 := Lib.hid hb3; have k0 := (hb3.cell (p := ⟨g, 0, none⟩) (by simpa using hg1)).trans q0; have k1 := (hb3.cell (p := ⟨g, 1, none⟩) (by simpa using hg1)).trans q1))
    have B3' : Below w2.heap.size w2 w3 := (below_drewN (Below.refl _ w2) 1).trans B3.out
    have HB3 := Lib.hid B3'
    have HO3 : Hid (Own w3 w2.heap.size 5 a3 (eTo L 2).length c3 (eTo L 2)) := by rw [Hid, HT2.out]; exact O3.out
    rw [← HT2.out]
    clear q0 q1 k0 k1 hn01 hn11 hn01' hn11' hw1 hw2 hw3 hw4 O3 B3 B3'
    go_wp2_with fail
    go_loopw [6, 7] (fun o i wr => ∃ (k : Nat) (a' : Option Addr) (c' : Nat), 2 ≤ k ∧ k ≤ n ∧ i = .int .i64 k ∧ o = .slice a' (eTo L k).length c' ∧ Own wr w2.heap.size 5 a' (eTo L k).length c' (eTo L k) ∧ Below w2.heap.size w2 wr) (fun _ i _ => n - (intOf i).toNat)
    case atStart => exact ⟨2, a3, c3, Nat.le_refl _, hn2, rfl, rfl, HO3.out, HB3.out⟩
    case round =>
      obtain ⟨k, a', c', hk2, hk, rfl, rfl, ho, hb⟩ := hrel
      have HO4 := Lib.hid ho
      have HB4 := Lib.hid hb
      have hsz := hb.size
      have hk0 : (0 : Int) ≤ k := by omega
      clear ho hb
      by_cases hlt : k < n
      · have hkl : k < L.length := by have := HN.out; omega
        obtain ⟨b', off', hkl', e, _, hc⟩ := (HO.out.uk.below HB4.out).at_ hlt
        injection e with e
        injection e with e1 e2
        subst e1; subst e2
        have hlen := HLEN.out (k - 2) (by have := HN.out; omega)
        rw [show 2 + (k - 2) = k from by omega] at hlen
        have hx := HBD.out k hkl
        have HS := Lib.hid (HSUC.out k hkl hk2)
        have hlt2 : (k : Int) < n := by omega
        obtain ⟨v, hv⟩ : ∃ v, L[k]'hkl = v := ⟨_, rfl⟩
        rw [hv] at hc HS hx
        rw [Nat.zero_add] at hc
        have HBS := Lib.hid (base_any v v (Nat.le_refl _) hx true wr)
        have hsl := subO_len (n := v) true hx
        have hw : IntKind.u64.wrap (v : Int) = v := by rw [IntKind.wrap_u64]; omega
        have hlM : (eTo L k).length ≤ 60000 := by omega
        clear hv hx hkl' hlen HLEN
        go_wp2_with fail
        refine HBS.out.mono ?_
        rintro e w4 ⟨a4, c4, rfl, ho4, hb4⟩
        have O4 := Lib.hid ho4
        have B4 := Lib.hid hb4
        have hsz4 := hb4.size
        have OO : Hid (Own w4 w2.heap.size 5 a' (eTo L k).length c' (eTo L k)) := HO4.out.keep fun y hy => hb4.block _ (HO4.out.base y hy).2
        clear ho4 hb4
        go_wp2_with (at_builtin; go_must (refine wpList_app _ rfl _ _ 32 rfl w2.heap.size 5 i0 Tryd.underlying32 hi hz0 hz1 hz2 a' (eTo L k).length c' (eTo L k) rfl OO.out a4 _ c4 _ rfl O4.out.bs (by omega) (by omega) ?_))
        intro a5 c5 w5 ho5 hg5
        have EL : Hid ((eTo L (k + 1)).length = (eTo L k).length + (subO v true).length) := by rw [Hid, HS.out, List.length_append]
        have O5 := Lib.hid ho5
        have q5 := app_below OO.out hg5 (Nat.le_refl _) (by omega)
        have B5 := Lib.hid ((bthen HB4.out B4.out).trans q5)
        clear ho5 hg5 q5
        go_wp2
        exact ⟨⟨k + 1, a5, c5, by omega, by omega, by go_num, by rw [EL.out], by rw [EL.out, HS.out]; exact O5.out, B5.out⟩, by simp [intOf]; omega⟩
      · obtain rfl : k = n := by omega
        have HT : Hid (eTo L k = encO L) := by rw [Hid, ← HN.out]; exact HALL.out
        have hlt2 : ¬ (k : Int) < k := by omega
        go_wp2
        go_ret2
        exact ⟨a', c', by rw [HE.out.1, HE.out.2, ← HT.out]; rfl, by rw [HE.out.2, ← HT.out]; exact HO4.out.more HB.out.size, bthen HB.out HB4.out⟩
end Go.Proofs.YtepicefbpadbhaaDoor
