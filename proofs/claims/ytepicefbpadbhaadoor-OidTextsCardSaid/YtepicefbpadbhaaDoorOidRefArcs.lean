/-
  Contract of the reference's Arcs.
-/
import Derived.Test.YtepicefbpadbhaaDoorOidNum
import Derived.Test.YtepicefbpadbhaaDoorOidArcsMath
namespace Go.Proofs.YtepicefbpadbhaaDoor
open Go.RowKit

set_option maxRecDepth 100000 in
set_option maxHeartbeats 4000000 in
theorem refArcs_any (w : World) (l : List UInt8) (hz : l.length ≤ 1000000) : Calls Tryd.prog 10 #[.string ⟨l.toArray⟩] w fun e w' => ∃ a c, e = .returned (.tuple #[.slice a (arcL l).length c, .int .i64 (arcC l)]) ∧ OwnK .u32 w' w.heap.size 45 a (arcL l).length c (arcL l) ∧ Below w.heap.size w w' := by
  obtain ⟨i0, hi, hz0, hz1, hz2⟩ := info_parts info_u32
  obtain ⟨m, hm⟩ : ∃ m, l.length = m := ⟨_, rfl⟩
  have hs : (⟨l.toArray⟩ : ByteArray).size = m := by rw [← hm]; rfl
  have HM := Lib.hid hm
  have hmz : (m : Int) ≤ 1000000 := by omega
  clear hm hz
  go_enter Tryd.func10, Tryd.ntmps10
  go_wp2_with fail
  go_loopw [4, 5, 6] (fun o f i wr => ∃ a c, ∃ L : List Nat, ∃ k j : Nat, o = .slice a L.length c ∧ f = .int .i64 j ∧ i = .int .i64 k ∧ L.length ≤ k ∧ Hid (k ≤ m ∧ j ≤ k ∧ NoPt l j k ∧ Rd l L (l.drop j) ∨ k = m + 1 ∧ arcsAll (splitO l) = some L) ∧ OwnK .u32 wr w.heap.size 45 a L.length c L ∧ Below w.heap.size w wr) (fun _ _ i _ => m + 1 - (intOf i).toNat)
  case atStart => exact ⟨none, 0, [], 0, 0, rfl, rfl, rfl, Nat.le_refl _, .inl ⟨Nat.zero_le _, Nat.le_refl _, noPt_self _ _, rd_start l⟩, OwnK.nil_ _ _ _ _, Below.refl _ _⟩
  case round =>
    obtain ⟨a, c, L, k, j, rfl, rfl, rfl, hLk, HH, ho, hb⟩ := hrel
    have HO := Lib.hid ho
    have HB := Lib.hid hb
    have hbs := hb.size
    have hk0 : (0 : Int) ≤ k := by omega
    have hj0 : (0 : Int) ≤ j := by omega
    clear ho hb
    rcases HH.out with ⟨hk, hjk, hnp, hrd⟩ | ⟨hk, hall⟩
    · have HNP := Lib.hid hnp
      have HRD := Lib.hid hrd
      clear HH hnp hrd
      have hjk2 : (j : Int) ≤ k := by omega
      have hk1 : (k : Int) ≤ m := by omega
      -- the part that ends here
      have key : ∀ (s : List UInt8), s = cutO l j k → s.length ≤ 1000000 := by
        rintro s rfl
        have := HM.out
        unfold cutO
        simp
        omega
      have HN := Lib.hid (number_any wr (cutO l j k) (key _ rfl))
      have ecut : (⟨(cutO l j k).toArray⟩ : ByteArray) = (⟨l.toArray⟩ : ByteArray).extract j k := (str_cut l j k).symm
      rw [ecut] at HN
      clear key ecut
      by_cases hlt : k < m
      · have hkl : k < l.length := by have := HM.out; omega
        have hlt2 : (k : Int) < m := by omega
        obtain ⟨x, hx⟩ : ∃ x, (⟨l.toArray⟩ : ByteArray)[k]'(by rw [hs]; exact hlt) = x := ⟨_, rfl⟩
        have hx2 : l[k] = x := hx
        by_cases hp : x = 46
        · subst hp
          have hx3 : ((46 : UInt8).toNat : Int) = 46 := rfl
          have HC := Lib.hid (cut_point hjk hkl hx2)
          rcases hn : arcOf (cutO l j k) with _ | n
          · have HA := Lib.hid (arc_fail (rd_bad (by rw [← HC.out]; exact HRD.out) (cut_no HNP.out) hn))
            rw [hn] at HN
            clear hn hx2
            go_wp2_with fail
            refine HN.out.mono ?_
            rintro e w2 ⟨v, rfl, _, rfl⟩
            go_wp2
            go_ret2
            exact ⟨none, 0, by rw [HA.out.1, HA.out.2]; rfl, by rw [HA.out.2]; exact OwnK.nil_ _ _ _ _, HB.out⟩
          · have HRD2 := Lib.hid (rd_step (by rw [← HC.out]; exact HRD.out) (cut_no HNP.out) hn)
            have hnb : n ≤ 4294967295 := (arcOf_some hn).2.1
            have hw : IntKind.u32.wrap (n : Int) = n := by rw [IntKind.wrap_u32]; omega
            have hnn : Hid (∀ v : Nat, (∀ q, arcOf (cutO l j k) = some q → v = q) → v = n) := fun v h => h n hn
            rw [show (arcOf (cutO l j k)).isSome = true from by rw [hn]; rfl] at HN
            clear hn hx2 hnb
            go_wp2_with fail
            refine HN.out.mono ?_
            rintro e w2 ⟨v, rfl, hv, rfl⟩
            obtain rfl := hnn.out v hv
            clear hv
            go_wp2_with (at_builtin; go_must (refine wpList_appK _ rfl _ _ 22 rfl w.heap.size 45 i0 Tryd.underlying22 hi hz0 hz1 (by rw [hz2]; omega) a L.length c L rfl (HO.out.alloc _) _ 1 1 [v] rfl (uk_lit_at rfl rfl rfl (by unfold maxLen; omega)) (by omega) (by simp; omega) ?_))
            intro a3 c3 w3 ho3 hg3
            have B3 := Lib.hid ((bal HB.out _).trans (OwnK.app_below (HO.out.alloc _) hg3 (Nat.le_refl _) (by simp; omega)))
            have O3 := Lib.hid ho3
            clear ho3 hg3
            go_wp2
            refine ⟨⟨a3, c3, L ++ [v], k + 1, k + 1, by simp, by go_num, by go_num, by simp; omega, .inl ⟨by omega, Nat.le_refl _, noPt_self _ _, HRD2.out⟩, by rw [List.length_append]; exact O3.out, B3.out⟩, by simp [intOf]; omega⟩
        · have hx3 : ¬ (x.toNat : Int) = 46 := fun e => hp (by apply UInt8.toNat_inj.1; have h46 : (46 : UInt8).toNat = 46 := rfl; omega)
          have HN2 := Lib.hid (noPt_step HNP.out hkl (by rw [hx2]; exact hp))
          clear hx2 HN hp
          go_wp2_with fail
          exact ⟨⟨a, c, L, k + 1, j, rfl, rfl, by go_num, by omega, .inl ⟨by omega, by omega, HN2.out, HRD.out⟩, HO.out, HB.out⟩, by simp [intOf]; omega⟩
      · obtain rfl : k = m := by omega
        have HE : Hid (cutO l j k = l.drop j) := by have := @cut_end l j; rw [HM.out] at this; exact this
        have hlt2 : ¬ (k : Int) < k := by omega
        rcases hn : arcOf (cutO l j k) with _ | n
        · have HA := Lib.hid (arc_fail (rd_last_bad (by rw [HE.out]; exact HRD.out) (cut_no HNP.out) hn))
          rw [hn] at HN
          clear hn
          go_wp2_with fail
          refine HN.out.mono ?_
          rintro e w2 ⟨v, rfl, _, rfl⟩
          go_wp2
          go_ret2
          exact ⟨none, 0, by rw [HA.out.1, HA.out.2]; rfl, by rw [HA.out.2]; exact OwnK.nil_ _ _ _ _, HB.out⟩
        · have HRD2 := Lib.hid (rd_last (by rw [HE.out]; exact HRD.out) (cut_no HNP.out) hn)
          have hnb : n ≤ 4294967295 := (arcOf_some hn).2.1
          have hw : IntKind.u32.wrap (n : Int) = n := by rw [IntKind.wrap_u32]; omega
          have hnn : Hid (∀ v : Nat, (∀ q, arcOf (cutO l j k) = some q → v = q) → v = n) := fun v h => h n hn
          rw [show (arcOf (cutO l j k)).isSome = true from by rw [hn]; rfl] at HN
          clear hn hnb
          go_wp2_with fail
          refine HN.out.mono ?_
          rintro e w2 ⟨v, rfl, hv, rfl⟩
          obtain rfl := hnn.out v hv
          clear hv
          go_wp2_with (at_builtin; go_must (refine wpList_appK _ rfl _ _ 22 rfl w.heap.size 45 i0 Tryd.underlying22 hi hz0 hz1 (by rw [hz2]; omega) a L.length c L rfl (HO.out.alloc _) _ 1 1 [v] rfl (uk_lit_at rfl rfl rfl (by unfold maxLen; omega)) (by omega) (by simp; omega) ?_))
          intro a3 c3 w3 ho3 hg3
          have B3 := Lib.hid ((bal HB.out _).trans (OwnK.app_below (HO.out.alloc _) hg3 (Nat.le_refl _) (by simp; omega)))
          have O3 := Lib.hid ho3
          clear ho3 hg3
          go_wp2
          refine ⟨⟨a3, c3, L ++ [v], k + 1, k + 1, by simp, by go_num, by go_num, by simp; omega, .inr ⟨rfl, HRD2.out⟩, by rw [List.length_append]; exact O3.out, B3.out⟩, by simp [intOf]⟩
    · subst hk
      have hk2 : ¬ ((m + 1 : Nat) : Int) ≤ m := by omega
      have HALL := Lib.hid hall
      clear HH hall
      have HR := Lib.hid (refRight_any HO.out.uk)
      rcases hr : rightO L with _ | _
      · have HA := Lib.hid (arc_wrong HALL.out hr)
        rw [hr] at HR
        go_wp2_with fail
        refine HR.out.mono ?_
        rintro e w2 ⟨rfl, rfl⟩
        go_wp2
        go_ret2
        exact ⟨none, 0, by rw [HA.out.1, HA.out.2]; rfl, by rw [HA.out.2]; exact OwnK.nil_ _ _ _ _, HB.out⟩
      · have HA := Lib.hid (arc_good HALL.out hr)
        rw [hr] at HR
        go_wp2_with fail
        refine HR.out.mono ?_
        rintro e w2 ⟨rfl, rfl⟩
        go_wp2
        go_ret2
        exact ⟨a, c, by rw [HA.out.1, HA.out.2]; rfl, by rw [HA.out.2]; exact HO.out, HB.out⟩
end Go.Proofs.YtepicefbpadbhaaDoor
