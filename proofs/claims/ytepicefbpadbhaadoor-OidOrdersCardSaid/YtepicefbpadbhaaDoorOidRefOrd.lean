/-
  Contracts of the reference's Compare and Under, and of the law's comparison of two lists of arcs.
-/
import Derived.Test.YtepicefbpadbhaaDoorOidOrd
namespace Go.Proofs.YtepicefbpadbhaaDoor
open Go.RowKit

theorem retN {a b : Int} (h : a = b) : Ending.returned (.int .i64 a) = .returned (.int .i64 b) := by rw [h]

set_option maxRecDepth 100000 in
set_option maxHeartbeats 2000000 in
theorem same_any {w : World} {a b : Option Addr} {n c m d : Nat} {xs ys : List Nat} (hx : Uk .u32 w a n c xs) (hy : Uk .u32 w b m d ys) (hn : n ≤ 1000000) (hm : m ≤ 1000000) :
    Calls Tryd.prog 13 #[.slice a n c, .slice b m d] w fun e w' => e = .returned (.bool (eqN xs ys)) ∧ ∃ q, w' = w.drewN q := by
  have HX := Lib.hid hx
  have HY := Lib.hid hy
  have LX := Lib.hid hx.1
  have LY := Lib.hid hy.1
  have hn2 : (n : Int) ≤ 1000000 := by omega
  have hm2 : (m : Int) ≤ 1000000 := by omega
  clear hx hy
  go_enter Tryd.func13, Tryd.ntmps13
  go_wp2_with fail
  go_loopw [5] (fun i wr => ∃ k q : Nat, k ≤ n ∧ k ≤ m ∧ i = .int .i64 k ∧ Hid (xs.take k = ys.take k) ∧ wr = w.drewN q) (fun i _ => n + m - (intOf i).toNat)
  case atStart => exact ⟨0, 0, Nat.zero_le _, Nat.zero_le _, rfl, rfl, rfl⟩
  case round =>
    obtain ⟨k, q, hk, hkm, rfl, HT, rfl⟩ := hrel
    have hk0 : (0 : Int) ≤ k := by omega
    by_cases hlt : k < n ∧ k < m
    · have hlt2 : (k : Int) < n := by omega
      have hlt3 : (k : Int) < m := by omega
      have hkx : k < xs.length := by have := LX.out; omega
      have hky : k < ys.length := by have := LY.out; omega
      obtain ⟨b1, o1, hkx', rfl, _, hc1⟩ := HX.out.at_ hlt.1
      obtain ⟨b2, o2, hky', rfl, _, hc2⟩ := HY.out.at_ hlt.2
      obtain ⟨x, hxx⟩ : ∃ x, xs[k]'hkx = x := ⟨_, rfl⟩
      obtain ⟨y, hyy⟩ : ∃ y, ys[k]'hky = y := ⟨_, rfl⟩
      rw [hxx] at hc1
      rw [hyy] at hc2
      by_cases he : x = y
      · have HS := Lib.hid (takeN_step hkx hky HT.out (by rw [hxx, hyy]; exact he))
        have hne : ((x : Int) != y) = false := by simp [he]
        have hne2 : (x : Int) = y := by omega
        clear hxx hyy he hkx' hky'
        go_wp2_with fail
        go_quiet (fail)
        go_wp2
        go_roundw
        case rel => exact ⟨k + 1, _, by omega, by omega, by go_num, HS.out, rfl⟩
        case measure => simp [intOf]; omega
      · have HE := Lib.hid (eqN_at hkx hky (by rw [hxx, hyy]; exact he))
        have hne : ((x : Int) != y) = true := by simp; omega
        have hne2 : ¬ (x : Int) = y := by omega
        clear hxx hyy he hkx' hky'
        go_wp2_with fail
        go_quiet (fail)
        go_wp2
        go_ret
        exact ⟨by rw [HE.out]; rfl, by simp only [World.drewN_drewN]; exact ⟨_, rfl⟩⟩
    · by_cases hnm : n = m
      · have HE : Hid (eqN xs ys = true) := eqN_end (xs := xs) (ys := ys) (by rw [LX.out, LY.out]; exact hnm) (by rw [LX.out, show n = k from by omega]; exact HT.out)
        have hnm2 : (n : Int) = m := by omega
        have hlt2 : ¬ (k : Int) < n := by omega
        go_wp2_with fail
        go_ret
        exact ⟨by rw [HE.out]; rfl, _, rfl⟩
      · have HE := Lib.hid (eqN_len (xs := xs) (ys := ys) (by rw [LX.out, LY.out]; exact hnm))
        have hnm2 : ((n : Int) == m) = false := by simp; omega
        by_cases hkn : k < n
        · have hlt2 : (k : Int) < n := by omega
          have hlt3 : ¬ (k : Int) < m := by omega
          go_wp2_with fail
          go_ret
          exact ⟨by rw [HE.out]; rfl, _, rfl⟩
        · have hlt2 : ¬ (k : Int) < n := by omega
          go_wp2_with fail
          go_ret
          exact ⟨by rw [HE.out]; rfl, _, rfl⟩

set_option maxRecDepth 100000 in
set_option maxHeartbeats 4000000 in
theorem refCompare_any (w : World) (p q : List UInt8) (hp : p.length ≤ 10000) (hq : q.length ≤ 10000) : Calls Tryd.prog 22 #[.string ⟨p.toArray⟩, .string ⟨q.toArray⟩] w fun e w' => e = .returned (.int .i64 (cmpO p q)) ∧ Below w.heap.size w w' := by
  have HA := Lib.hid (refArcs_any w p (by omega))
  have HB := Lib.hid (fun w2 => refArcs_any w2 q (by omega))
  have hlp := arcL_len p
  have hlq := arcL_len q
  rcases ha : arcsO p with _ | x
  · rw [(arc_none ha).1, (arc_none ha).2] at HA
    rw [cmpO_left ha]
    clear ha
    go_enter Tryd.func22, Tryd.ntmps22
    go_wp2_with fail
    refine HA.out.mono ?_
    rintro e w2 ⟨a, c, rfl, _, hb⟩
    go_wp2_with fail
    refine (HB.out _).mono ?_
    rintro e w3 ⟨a3, c3, rfl, _, hb3⟩
    go_wp2
    go_ret
    exact ⟨rfl, bthen hb hb3⟩
  · rw [(arc_some ha).1, (arc_some ha).2] at HA
    rcases hb : arcsO q with _ | y
    · rw [(arc_none hb).1, (arc_none hb).2] at HB
      rw [cmpO_right hb]
      clear ha hb
      go_enter Tryd.func22, Tryd.ntmps22
      go_wp2_with fail
      refine HA.out.mono ?_
      rintro e w2 ⟨a, c, rfl, _, hb⟩
      go_wp2_with fail
      refine (HB.out _).mono ?_
      rintro e w3 ⟨a3, c3, rfl, _, hb3⟩
      go_wp2
      go_ret
      exact ⟨rfl, bthen hb hb3⟩
    · rw [(arc_some hb).1, (arc_some hb).2] at HB
      rw [(arc_some ha).2] at hlp
      rw [(arc_some hb).2] at hlq
      rw [cmpO_both ha hb]
      clear ha hb
      obtain ⟨n, hn⟩ : ∃ n, x.length = n := ⟨_, rfl⟩
      obtain ⟨m, hm⟩ : ∃ m, y.length = m := ⟨_, rfl⟩
      have LX := Lib.hid hn
      have LY := Lib.hid hm
      rw [hn] at HA hlp
      rw [hm] at HB hlq
      clear hn hm
      go_enter Tryd.func22, Tryd.ntmps22
      go_wp2_with fail
      refine HA.out.mono ?_
      rintro e w2 ⟨a, c, rfl, ho, hb⟩
      go_wp2_with fail
      refine (HB.out _).mono ?_
      rintro e w3 ⟨a3, c3, rfl, ho3, hb3⟩
      have HX := Lib.hid (ho.uk.below hb3)
      have HY := Lib.hid ho3.uk
      have HBB := Lib.hid (bthen hb hb3)
      clear ho ho3 hb hb3
      go_wp2_with fail
      go_loopw [9] (fun i wr => ∃ k q : Nat, k ≤ n ∧ k ≤ m ∧ i = .int .i64 k ∧ Hid (x.take k = y.take k) ∧ wr = w3.drewN q) (fun i _ => n + m - (intOf i).toNat)
      case atStart => exact ⟨0, 0, Nat.zero_le _, Nat.zero_le _, rfl, rfl, rfl⟩
      case round =>
        obtain ⟨k, j, hk, hkm, rfl, HT, rfl⟩ := hrel
        have hk0 : (0 : Int) ≤ k := by omega
        by_cases hlt : k < n ∧ k < m
        · have hlt2 : (k : Int) < n := by omega
          have hlt3 : (k : Int) < m := by omega
          have hkx : k < x.length := by have := LX.out; omega
          have hky : k < y.length := by have := LY.out; omega
          obtain ⟨b1, o1, hkx', rfl, _, hc1⟩ := HX.out.at_ hlt.1
          obtain ⟨b2, o2, hky', rfl, _, hc2⟩ := HY.out.at_ hlt.2
          obtain ⟨u, hxx⟩ : ∃ u, x[k]'hkx = u := ⟨_, rfl⟩
          obtain ⟨v, hyy⟩ : ∃ v, y[k]'hky = v := ⟨_, rfl⟩
          rw [hxx] at hc1
          rw [hyy] at hc2
          by_cases he : u = v
          · have HS := Lib.hid (takeN_step hkx hky HT.out (by rw [hxx, hyy]; exact he))
            have h1 : ¬ (u : Int) < v := by omega
            have h2 : ¬ (v : Int) < u := by omega
            have h3 : ¬ (u : Int) > v := by omega
            clear hxx hyy he hkx' hky'
            go_wp2_with fail
            go_quiet (fail)
            go_wp2
            go_quiet (fail)
            go_wp2
            go_roundw
            case rel => exact ⟨k + 1, _, by omega, by omega, by go_num, HS.out, rfl⟩
            case measure => simp [intOf]; omega
          · have HL := lexN_at k x y HT.out hkx hky (by rw [hxx, hyy]; exact he)
            rw [hxx, hyy] at HL
            by_cases hl : u < v
            · have HV : Hid (lexN x y = -1) := by
                rw [Hid, HL]
                unfold sgn
                rw [if_pos (by omega)]
              have h1 : (u : Int) < v := by omega
              clear hxx hyy he hkx' hky' HL
              go_wp2_with fail
              go_quiet (fail)
              go_wp2
              go_ret
              exact ⟨by rw [HV.out]; rfl, below_drewN (below_drewN HBB.out _) _⟩
            · have HV : Hid (lexN x y = 1) := by
                rw [Hid, HL]
                unfold sgn
                rw [if_neg (by omega), if_pos (by omega)]
              have h1 : ¬ (u : Int) < v := by omega
              have h3 : (u : Int) > v := by omega
              clear hxx hyy he hkx' hky' HL
              go_wp2_with fail
              go_quiet (fail)
              go_wp2
              go_quiet (fail)
              go_wp2
              go_ret
              exact ⟨by rw [HV.out]; rfl, below_drewN (below_drewN (below_drewN HBB.out _) _) _⟩
        · have HL : Hid (lexN x y = sgn (n : Int) m) := by
            by_cases hnm : n ≤ m
            · have h := lexN_short (xs := x) (ys := y) (by rw [LX.out, show n = k from by omega]; exact HT.out) (by rw [LX.out, LY.out]; exact hnm)
              rw [LX.out, LY.out] at h
              exact h
            · have h := lexN_long (xs := x) (ys := y) (by rw [LY.out, show m = k from by omega]; exact HT.out) (by rw [LX.out, LY.out]; omega)
              rw [LX.out, LY.out] at h
              exact h
          go_wp2
          all_goals
            go_ret
            refine ⟨retN ?_, below_drewN HBB.out _⟩
            rw [HL.out]
            unfold sgn
            (repeat split) <;> omega

set_option maxRecDepth 100000 in
set_option maxHeartbeats 4000000 in
theorem refUnder_any (w : World) (p q : List UInt8) (hp : p.length ≤ 10000) (hq : q.length ≤ 10000) : Calls Tryd.prog 24 #[.string ⟨p.toArray⟩, .string ⟨q.toArray⟩] w fun e w' => e = .returned (.bool (undO p q)) ∧ Below w.heap.size w w' := by
  have HA := Lib.hid (refArcs_any w p (by omega))
  have HB := Lib.hid (fun w2 => refArcs_any w2 q (by omega))
  have hlp := arcL_len p
  have hlq := arcL_len q
  rcases ha : arcsO p with _ | x
  · rw [(arc_none ha).1, (arc_none ha).2] at HA
    rw [undO_left ha]
    clear ha
    go_enter Tryd.func24, Tryd.ntmps24
    go_wp2_with fail
    refine HA.out.mono ?_
    rintro e w2 ⟨a, c, rfl, _, hb⟩
    go_wp2_with fail
    refine (HB.out _).mono ?_
    rintro e w3 ⟨a3, c3, rfl, _, hb3⟩
    go_wp2
    go_ret
    exact ⟨rfl, bthen hb hb3⟩
  · rw [(arc_some ha).1, (arc_some ha).2] at HA
    rcases hb : arcsO q with _ | y
    · rw [(arc_none hb).1, (arc_none hb).2] at HB
      rw [undO_right hb]
      clear ha hb
      go_enter Tryd.func24, Tryd.ntmps24
      go_wp2_with fail
      refine HA.out.mono ?_
      rintro e w2 ⟨a, c, rfl, _, hb⟩
      go_wp2_with fail
      refine (HB.out _).mono ?_
      rintro e w3 ⟨a3, c3, rfl, _, hb3⟩
      go_wp2
      go_ret
      exact ⟨rfl, bthen hb hb3⟩
    · rw [(arc_some hb).1, (arc_some hb).2] at HB
      rw [(arc_some ha).2] at hlp
      rw [(arc_some hb).2] at hlq
      have HU := Lib.hid (undO_both ha hb)
      have HUS := fun h => Lib.hid (undO_short ha hb h)
      clear ha hb
      obtain ⟨n, hn⟩ : ∃ n, x.length = n := ⟨_, rfl⟩
      obtain ⟨m, hm⟩ : ∃ m, y.length = m := ⟨_, rfl⟩
      have LX := Lib.hid hn
      have LY := Lib.hid hm
      rw [hn] at HA hlp HUS
      rw [hm] at HB hlq HUS HU
      clear hn hm
      by_cases hlt : n < m
      · have HF := HUS hlt
        have hlt2 : (m : Int) > n := by omega
        clear HUS
        go_enter Tryd.func24, Tryd.ntmps24
        go_wp2_with fail
        refine HA.out.mono ?_
        rintro e w2 ⟨a, c, rfl, ho, hb⟩
        go_wp2_with fail
        refine (HB.out _).mono ?_
        rintro e w3 ⟨a3, c3, rfl, ho3, hb3⟩
        clear ho ho3
        go_wp2
        go_ret
        exact ⟨by rw [HF.out]; rfl, bthen hb hb3⟩
      · have hlt2 : ¬ (m : Int) > n := by omega
        have hle : m ≤ n := by omega
        clear HUS
        go_enter Tryd.func24, Tryd.ntmps24
        go_wp2_with fail
        refine HA.out.mono ?_
        rintro e w2 ⟨a, c, rfl, ho, hb⟩
        go_wp2_with fail
        refine (HB.out _).mono ?_
        rintro e w3 ⟨a3, c3, rfl, ho3, hb3⟩
        have HX := Lib.hid (ho.uk.below hb3)
        have HY := Lib.hid ho3.uk
        have HBB := Lib.hid (bthen hb hb3)
        clear ho ho3 hb hb3
        go_wp2_with fail
        go_loopw [9] (fun i wr => ∃ k q : Nat, k ≤ m ∧ i = .int .i64 k ∧ Hid (y.take k = (x.take m).take k) ∧ wr = w3.drewN q) (fun i _ => n + m - (intOf i).toNat)
        case atStart => exact ⟨0, 0, Nat.zero_le _, rfl, rfl, rfl⟩
        case round =>
          obtain ⟨k, j, hkm, rfl, HT, rfl⟩ := hrel
          have hk0 : (0 : Int) ≤ k := by omega
          by_cases hkl : k < m
          · have hlt3 : (k : Int) < m := by omega
            have hlt4 : (k : Int) < n := by omega
            have hkx : k < x.length := by have := LX.out; omega
            have hkx2 : k < (x.take m).length := by rw [List.length_take]; omega
            have hky : k < y.length := by have := LY.out; omega
            obtain ⟨b1, o1, hkx', rfl, _, hc1⟩ := HX.out.at_ (show k < n by omega)
            obtain ⟨b2, o2, hky', rfl, _, hc2⟩ := HY.out.at_ hkl
            have hgt : (x.take m)[k]'hkx2 = x[k]'hkx := List.getElem_take
            obtain ⟨u, hxx⟩ : ∃ u, x[k]'hkx = u := ⟨_, rfl⟩
            obtain ⟨v, hyy⟩ : ∃ v, y[k]'hky = v := ⟨_, rfl⟩
            rw [hxx] at hc1 hgt
            rw [hyy] at hc2
            by_cases he : u = v
            · have HS := Lib.hid (takeN_step hky hkx2 HT.out (by rw [hgt, hyy, he]))
              have hne : ((u : Int) != v) = false := by simp [he]
              have hne2 : (u : Int) = v := by omega
              clear hxx hyy he hkx' hky' hgt
              go_wp2_with fail
              go_quiet (fail)
              go_wp2
              go_roundw
              case rel => exact ⟨k + 1, _, by omega, by go_num, HS.out, rfl⟩
              case measure => simp [intOf]; omega
            · have HE := Lib.hid (eqN_at hky hkx2 (by rw [hgt, hyy]; exact fun e => he e.symm))
              have hne : ((u : Int) != v) = true := by simp; omega
              have hne2 : ¬ (u : Int) = v := by omega
              clear hxx hyy he hkx' hky' hgt
              go_wp2_with fail
              go_quiet (fail)
              go_wp2
              go_ret
              exact ⟨by rw [HU.out, HE.out]; rfl, below_drewN (below_drewN HBB.out _) _⟩
          · obtain rfl : k = m := by omega
            have hlt3 : ¬ (k : Int) < k := by omega
            have HE : Hid (eqN y (x.take k) = true) := eqN_end (by rw [List.length_take, LY.out, LX.out]; omega) (by rw [LY.out]; exact HT.out)
            go_wp2_with fail
            go_ret
            exact ⟨by rw [HU.out, HE.out]; rfl, below_drewN HBB.out _⟩
end Go.Proofs.YtepicefbpadbhaaDoor
