/-
  Contract of Encode (of the program).
-/
import Derived.Test.YtepicefbpadbhaaDoorOidEncMath
import Derived.Test.YtepicefbpadbhaaDoorOidAdd
import Derived.Deep.RegionHeld3
namespace Go.Proofs.YtepicefbpadbhaaDoor
open Go.RowKit

/-- the octets of the first k + 2 arcs lie in the box, and what lay below it lies still -/
def EncI (w1 : World) (B : Nat) (L : List Nat) (k : Nat) (wr : World) : Prop := BxOwn wr B (B + 1) (eTo L (2 + k)) ∧ Below B w1 wr ∧ B + 1 ≤ wr.heap.size

set_option maxRecDepth 100000 in
set_option maxHeartbeats 8000000 in
theorem encode_any (w : World) (hW : Wd w) (l : List UInt8) (hz : l.length ≤ 10000) : Calls Tryd.prog 16 #[.string ⟨l.toArray⟩] w fun e w' => ∃ a c, e = .returned (.tuple #[.slice a (eL l).length c, .int .i64 (eC l)]) ∧ Own w' w.heap.size 5 a (eL l).length c (eL l) ∧ Below w.heap.size w w' := by
  have HA := Lib.hid (arcs_any w hW l (by omega))
  rcases hp : arcsO l with _ | L
  · have HE := Lib.hid (e_none hp)
    rw [(arc_none hp).1, (arc_none hp).2] at HA
    clear hp
    go_enter Tryd.func16, Tryd.ntmps16
    go_wp2_with fail
    refine HA.out.mono ?_
    rintro e w2 ⟨a, c, rfl, _, hb⟩
    go_wp2
    go_ret2
    exact ⟨none, 0, by rw [HE.out.1, HE.out.2]; rfl, by rw [HE.out.2]; exact World.ownsRow_nil _ _ _ _, hb⟩
  · have HE := Lib.hid (e_some hp)
    rw [(arc_some hp).1, (arc_some hp).2] at HA
    obtain ⟨x, y, r, hL, hs⟩ := arcs_two hp
    have hlb := arcL_len l
    rw [(arc_some hp).2] at hlb
    have hbd := (arcs_some hp).1.2
    have HLEN := Lib.hid (eTo_len hbd hL hs)
    have HT2 : Hid (eTo L 2 = subO (40 * x + y) true) := by rw [Hid, hL]; exact eTo_two x y r
    have HALL := Lib.hid (eTo_all L)
    have HSUC : Hid (∀ k (hk : k < L.length), 2 ≤ k → eTo L (k + 1) = eTo L k ++ subO (L[k]'hk) true) := fun k hk h2 => eTo_succ hk h2
    have HXY : Hid (∀ h0 : 0 < L.length, L[0] = x) := by subst hL; intro _; rfl
    have HXY1 : Hid (∀ h0 : 1 < L.length, L[1] = y) := by subst hL; intro _; rfl
    obtain ⟨n, hn⟩ : ∃ n, L.length = n := ⟨_, rfl⟩
    have hn2 : 2 ≤ n := by rw [← hn, hL]; simp
    have HN := Lib.hid hn
    have hnb : (n : Int) ≤ 10001 := by omega
    have hn2' : (2 : Int) ≤ n := by omega
    rw [hn] at HA
    have HBD : Hid (∀ k (hk : k < L.length), L[k] ≤ 4294967295) := fun k hk => hbd _ (List.getElem_mem hk)
    have hx0 : (0 : Int) ≤ x := by omega
    have hy0 : (0 : Int) ≤ y := by omega
    have hs' : (x : Int) * 40 + y ≤ 4294967295 := by omega
    have hw3 : IntKind.u32.wrap ((x : Int) * 40) = (x : Int) * 40 := by rw [IntKind.wrap_u32]; omega
    have hw4 : IntKind.u32.wrap ((x : Int) * 40 + y) = ((40 * x + y : Nat) : Int) := by rw [IntKind.wrap_u32]; omega
    clear hp hlb hbd hL hn
    go_enter Tryd.func16, Tryd.ntmps16
    go_wp2_with fail
    refine HA.out.mono ?_
    rintro e w2 ⟨a, c, rfl, ho, hb⟩
    obtain ⟨g, rfl, hg0, hg1⟩ := ho.pos (by omega)
    have q0' := ho.cell (j := 0) (by rw [ho.len]; omega)
    have q1' := ho.cell (j := 1) (by rw [ho.len]; omega)
    rw [HXY.out (by rw [ho.len]; omega)] at q0'
    rw [HXY1.out (by rw [ho.len]; omega)] at q1'
    have HO := Lib.hid ho
    have HB := Lib.hid hb
    have hcap := ho.cap.1
    clear ho hb
    obtain ⟨B, hB⟩ : ∃ B, w2.heap.size = B := ⟨_, rfl⟩
    obtain ⟨w3, hw3e⟩ : ∃ w3, w2.alloc (.cells #[.slice none 0 0] 32) = w3 := ⟨_, rfl⟩
    have hb23 : Below w2.heap.size w2 w3 := by rw [← hw3e]; exact bal (Below.refl _ _) _
    have hbx : Boxed w3 B 32 (.slice none 0 0) := by rw [← hw3e, ← hB]; exact Boxed.new _ _ _
    have hs3 : w3.heap.size = B + 1 := by rw [← hw3e]; simp [hB]
    have q0 := (hb23.cell (p := ⟨g, 0, none⟩) hg1).trans q0'
    have q1 := (hb23.cell (p := ⟨g, 1, none⟩) hg1).trans q1'
    rw [hB] at hb23 hg1
    have HBX : Hid (BxOwn w3 B (B + 1) []) := ⟨none, 0, hbx, World.ownsRow_nil _ _ _ _⟩
    have HB23 := Lib.hid hb23
    have hmy : w2.heap.size + 1 = B + 1 := by rw [hB]
    obtain ⟨S, hS⟩ : ∃ S, 40 * x + y = S := ⟨_, rfl⟩
    rw [hS] at hw4 HT2
    have hSb : S ≤ 4294967295 := by omega
    have HAD : Hid (∀ w4, BxOwn w4 B (B + 1) [] → B + 1 ≤ w4.heap.size → Calls Tryd.prog 32 #[.int .u32 (S : Int), .pointer (some ⟨B, 0, none⟩)] w4 fun e w' => e = .returned (.tuple #[]) ∧ BxOwn w' B (B + 1) ([] ++ subO S true) ∧ Below B w4 w') := fun w4 h1 h2 => add_any h1 (Nat.lt_succ_self _) h2 (by simp) hSb
    clear q0' q1' hbx hb23
    go_wp2_with fail
    have HCALL : Hid (Calls Tryd.prog 32 #[.int .u32 (S : Int), .pointer (some ⟨B, 0, none⟩)] w3.drew fun e w' => e = .returned (.tuple #[]) ∧ BxOwn w' B (B + 1) ([] ++ subO S true) ∧ Below B w3.drew w') := HAD.out w3.drew HBX.out (by simp; omega)
    have hn01 : 0 < n := by omega
    have hn11 : 1 < n := by omega
    have hn01' : (0 : Int) < n := by omega
    have hn11' : (1 : Int) < n := by omega
    clear hs hs' hS hSb hx0 hy0
    go_region_held3 (fun w' => w'.cell? ⟨g, 0, none⟩ = some (.int .u32 (x : Int)) ∧ w'.cell? ⟨g, 1, none⟩ = some (.int .u32 (y : Int))) (first | exact ⟨q0, q1⟩ | exact ⟨k0, k1⟩ | assumption)
      (first | (go_at_call 32; (with_reducible refine HCALL.out.mono ?_); rintro e w4 ⟨rfl, ho3, hb3⟩; have O3 := Lib.hid ho3; have B3 := Lib.hid hb3; have k0 := (hb3.cell (p := ⟨g, 0, none⟩) (by simpa using hg1)).trans q0; have k1 := (hb3.cell (p := ⟨g, 1, none⟩) (by simpa using hg1)).trans q1))
    have HI4 : Hid (EncI w2 B L 0 w4) := by
      refine ⟨?_, HB23.out.trans ((below_drewN (Below.refl B w3) 1).trans B3.out), ?_⟩
      · rw [Nat.add_zero, HT2.out]
        exact O3.out
      · have := B3.out.size
        simp at this
        omega
    clear q0 q1 k0 k1 hn01 hn11 hn01' hn11' hw3 hw4 O3 B3 HBX HCALL HAD
    obtain ⟨m, hm⟩ : ∃ m, n - 2 = m := ⟨_, rfl⟩
    have hm2 : (n : Int) - 2 = m := by omega
    have hm3 : n = m + 2 := by omega
    by_cases hc2 : c = 2
    · subst hc2
      obtain rfl : n = 2 := by omega
      clear hm hm2 hm3
      go_wp2_with fail
      go_loopw [31] (fun i wr => i = .int .i64 0 ∧ EncI w2 B L 0 wr) (fun _ _ => 0)
      case atStart => exact ⟨rfl, HI4.out⟩
      case round =>
        obtain ⟨rfl, he⟩ := hrel
        have HT : Hid (eTo L (2 + 0) = encO L) := by rw [Hid, show 2 + 0 = L.length from HN.out.symm]; exact HALL.out
        obtain ⟨⟨a5, c5, hx5, ho5⟩, hb5, _⟩ := he
        rw [HT.out] at hx5 ho5
        have hc5 := hx5.cell
        have O5 := Lib.hid ho5
        have B5 : Hid (Below w2.heap.size w2 wr) := by rw [hB]; exact hb5
        clear hx5 ho5 hb5
        go_wp2
        go_ret2
        exact ⟨a5, c5, by rw [HE.out.1, HE.out.2]; rfl, by rw [HE.out.2]; exact O5.out.more (by have := HB.out.size; omega), bthen HB.out B5.out⟩
    · have hc3 : 2 ≤ c := by omega
      clear hm
      subst hm3
      have hm0 : (0 : Int) ≤ m := by omega
      go_wp2_with fail
      go_loopw [31] (fun i wr => ∃ k : Nat, k ≤ m ∧ i = .int .i64 k ∧ EncI w2 B L k wr) (fun i _ => m - (intOf i).toNat)
      case atStart => exact ⟨0, Nat.zero_le _, rfl, HI4.out⟩
      case round =>
        obtain ⟨k, hk, rfl, he⟩ := hrel
        have HIk := Lib.hid he
        have hk0 : (0 : Int) ≤ k := by omega
        have hsz := he.2.2
        clear he
        by_cases hlt : k < m
        · have hkl : 2 + k < L.length := by have := HN.out; omega
          have hc := (HIk.out.2.1.cell (p := ⟨g, 2 + k, none⟩) hg1).trans (HO.out.cell hkl)
          have hlen := HLEN.out k (by have := HN.out; omega)
          have hx := HBD.out (2 + k) hkl
          have HS := Lib.hid (HSUC.out (2 + k) hkl (by omega))
          have hlt2 : (k : Int) < m := by omega
          obtain ⟨v, hv⟩ : ∃ v, L[2 + k]'hkl = v := ⟨_, rfl⟩
          rw [hv] at hc HS hx
          have HADD := Lib.hid (add_any HIk.out.1 (Nat.lt_succ_self _) hsz (by omega) hx)
          clear hv hlen
          go_wp2_with fail
          refine HADD.out.mono ?_
          rintro e w5 ⟨rfl, hb5, hbl5⟩
          have HI5 : Hid (EncI w2 B L (k + 1) w5) := ⟨by rw [show 2 + (k + 1) = 2 + k + 1 from by omega, HS.out]; exact hb5, HIk.out.2.1.trans hbl5, Nat.le_trans hsz hbl5.size⟩
          clear hb5 hbl5
          go_wp2
          exact ⟨⟨k + 1, by omega, by go_num, HI5.out⟩, by simp [intOf]; omega⟩
        · obtain rfl : k = m := by omega
          have hlt2 : ¬ (k : Int) < k := by omega
          have HT : Hid (eTo L (2 + k) = encO L) := by rw [Hid, show 2 + k = L.length from by have := HN.out; omega]; exact HALL.out
          obtain ⟨⟨a5, c5, hx5, ho5⟩, hb5, _⟩ := HIk.out
          rw [HT.out] at hx5 ho5
          have hc5 := hx5.cell
          have O5 := Lib.hid ho5
          have B5 : Hid (Below w2.heap.size w2 wr) := by rw [hB]; exact hb5
          clear hx5 ho5 hb5
          go_wp2
          go_ret2
          exact ⟨a5, c5, by rw [HE.out.1, HE.out.2]; rfl, by rw [HE.out.2]; exact O5.out.more (by have := HB.out.size; omega), bthen HB.out B5.out⟩
end Go.Proofs.YtepicefbpadbhaaDoor
