/-
  Contract of EncodeNamed, of the reference.
-/
import Derived.Test.YtfflfahhfhnkdaaBitNamMath
import Derived.Test.YtfflfahhfhnkdaaBitMemRef
import Derived.Test.YtfflfahhfhnkdaaBitEnc
namespace Go.Proofs.Ytfflfahhfhnkdaa
open Go.RowKit

theorem vals_at {J : Nat} (h : J < 8) : (#[Value.int .u8 128, .int .u8 64, .int .u8 32, .int .u8 16, .int .u8 8, .int .u8 4, .int .u8 2, .int .u8 1] : Array Value)[J]? = some (.int .u8 ((2 ^ (7 - J) : Nat) : Int)) := by
  rcases J with _ | _ | _ | _ | _ | _ | _ | _ | J
  all_goals first | rfl | omega
theorem eb_nam (S : Nat) : ebL (namB S) (namU S) = namO S ∧ ebC (namB S) (namU S) = 0 := by
  have h := eb_yes (nam_valid S)
  rw [Int.toNat_natCast] at h
  exact h
theorem memI_zero : memI ((0 : Nat) : Int) = [] := by
  rw [memI_pos, memTo_none]
/-- a set that is not empty: its last member -/
theorem memI_last {S : Nat} (h0 : S ≠ 0) (h : S < 2 ^ 63) : ∃ k, (memI (S : Int)).length = k + 1 ∧ (memI (S : Int))[k]? = some (topN S) := by
  have e := memI_top h0 (show S < 2 ^ 64 by omega)
  refine ⟨(memTo (bN S) (topN S)).length, by rw [e, List.length_append]; rfl, ?_⟩
  rw [e, List.getElem?_append_right (Nat.le_refl _), Nat.sub_self]
  rfl
/-- a row's cell, by what the row holds there -/
theorem OwnK.cell_is {k : IntKind} {w : World} {B : Nat} {e : TypeId} {g n c : Nat} {L : List Nat} (h : OwnK k w B e (some ⟨g, 0, none⟩) n c L) {j x : Nat} (hj : L[j]? = some x) : w.cell? ⟨g, j, none⟩ = some (.int k x) := by
  obtain ⟨hl, rfl⟩ := List.getElem?_eq_some_iff.1 hj
  exact h.cell hl

set_option maxRecDepth 100000 in
set_option maxHeartbeats 4000000 in
theorem ref_encn_any (w : World) (s m : Int) (hs : s ≤ 9223372036854775807) :
    Calls Try.prog 23 #[.int .i64 s, .int .i64 m] w fun e w' => ∃ a c, e = .returned (.tuple #[.slice a (enL s m).length c, .int .i64 (enC s m)]) ∧ Own w' w.heap.size 5 a (enL s m).length c (enL s m) ∧ Below w.heap.size w w' := by
  by_cases hm : 1 ≤ m ∧ m ≤ 32
  · obtain ⟨hm1, hm2⟩ := hm
    by_cases hs0 : s < 0
    · rw [(en_no (s := s) (m := m) (by omega)).1, (en_no (s := s) (m := m) (by omega)).2]
      have hm3 : ¬ m < 1 := by omega
      go_enter Try.func23, Try.ntmps23
      go_wp2_with fail
      go_ret2
      exact ⟨none, 0, rfl, World.ownsRow_nil _ _ _ _, Below.refl _ _⟩
    · obtain ⟨S, rfl⟩ : ∃ S : Nat, s = S := ⟨s.toNat, by omega⟩
      obtain ⟨M, rfl⟩ : ∃ M : Nat, m = M := ⟨m.toNat, by omega⟩
      have hM3 : ¬ (M : Int) < 1 := by omega
      have hS31 : S < 2 ^ 63 := by omega
      have HM := Lib.hid (fun w => ref_members_any w (S : Int) hs)
      by_cases h0 : S = 0
      · subst h0
        rw [(en_yes (s := 0) (m := M) (by omega) (by omega) (Nat.two_pow_pos M)).1, (en_yes (s := 0) (m := M) (by omega) (by omega) (Nat.two_pow_pos M)).2]
        rw [memI_zero] at HM
        clear hs hS31 hs0
        go_enter Try.func23, Try.ntmps23
        go_wp2_with fail
        refine (HM.out _).mono ?_
        rintro e w1 ⟨a1, c1, rfl, _, q⟩
        have Q := Lib.hid q
        clear q
        go_wp2_with fail
        go_ret2
        exact ⟨_, 1, rfl, own_lit _ _ _ 1 rfl rfl (by decide) Q.out.size, bal Q.out _⟩
      · obtain ⟨z, hz, hlast⟩ := memI_last h0 hS31
        have HT : Hid (topN S < M ↔ S < 2 ^ M) := by
          constructor
          · intro h
            exact Nat.lt_of_lt_of_le (top_hi S) (Nat.pow_le_pow_right (by omega) h)
          · exact fun h => top_below h0 h
        have HZ := Lib.hid hz
        have hz63 : z < 64 := by have := memI_len (S : Int); omega
        have hz64 : (z : Int) < 64 := by omega
        rw [hz] at HM
        have hS0 : ¬ (S : Int) < 0 := by omega
        by_cases hlt : S < 2 ^ M
        · rw [(en_yes (by omega) (by omega) hlt).1, (en_yes (by omega) (by omega) hlt).2]
          have htM := HT.out.2 hlt
          have htM2 : (topN S : Int) < M := by omega
          have HB := Lib.hid (namB_pos h0)
          have HU := Lib.hid (namU_pos h0)
          have HEB := Lib.hid (eb_nam S)
          have HIN := Lib.hid (inL_memI hS31)
          have HBL : Hid (∀ t ∈ memI (S : Int), t < topN S + 1) := fun t ht => by have := mem_below hS31 ht; unfold namN at this; rw [if_neg h0] at this; exact this
          have HRD : Hid (∀ k K (hk : k < (memI (S : Int)).length) x (hi : (memI (S : Int))[k] / 8 < K) (_ : (bytesF (inL ((memI (S : Int)).take k)) K)[(memI (S : Int))[k] / 8]'(by rw [bytesF_len]; exact hi) = x), x.toNat / 2 ^ (7 - (memI (S : Int))[k] % 8) % 2 = 0 ∧ x.toNat + 2 ^ (7 - (memI (S : Int))[k] % 8) = (upB (inL ((memI (S : Int)).take k)) (memI (S : Int))[k]).toNat ∧
      bytesF (inL ((memI (S : Int)).take (k + 1))) K = (bytesF (inL ((memI (S : Int)).take k)) K).set ((memI (S : Int))[k] / 8) (upB (inL ((memI (S : Int)).take k)) (memI (S : Int))[k])) := fun k K hk x hi hx => mem_round hk hi hx
          obtain ⟨i0, hi, hz0, hz1, hz2⟩ := info_parts info_u8
          rw [HB.out, HU.out] at HEB
          clear hs hS31 hs0 hlt HT HB HU
          generalize namO S = O at *
          generalize memI (S : Int) = L at *
          generalize bN S = f at *
          generalize topN S = t at *
          obtain ⟨K, hK⟩ : ∃ K, t / 8 + 1 = K := ⟨_, rfl⟩
          obtain ⟨U, hU⟩ : ∃ U, 7 - t % 8 = U := ⟨_, rfl⟩
          rw [hK, hU] at HEB
          have hK4 : K ≤ 4 := by omega
          have hU7 : U ≤ 7 := by omega
          have hKi : (t : Int) / 8 + 1 = K := by omega
          have hUi : 7 - (t : Int) % 8 = U := by omega
          have hK2 : (K : Int) ≤ 4 := by omega
          have hU2 : (U : Int) ≤ 7 := by omega
          have hNK : t < 8 * K := by omega
          clear hK hU
          obtain ⟨H, hH⟩ : ∃ H, w.heap.size = H := ⟨_, rfl⟩
          go_enter Try.func23, Try.ntmps23
          go_wp2_with fail
          with_reducible refine (HM.out _).mono ?_
          rintro e w1 ⟨a1, c1, rfl, ho, q⟩
          have hhc := ho.pos (by omega)
          obtain ⟨g, ha, hg1, hg2⟩ := hhc
          subst ha
          have hc := ho.cell_is hlast
          have Q1 : Hid (Below H w w1) := by rw [← hH]; exact q
          have M1 := Lib.hid ho
          clear q ho hlast hz
          obtain ⟨G, hG⟩ : ∃ G, w1.heap.size = G := ⟨_, rfl⟩
          have hb0 := Lib.hid (Below.refl w1.heap.size w1)
          go_wp2_with (at_make; go_must (refine wpList_make_full _ rfl _ _ 22 rfl w1.heap.size 5 i0 (.int .u8 0) 1 Try.underlying22 hi hz0 hz1 .i64 .i64 _ _ K rfl rfl (by omega) (by omega) (by rw [hz2]; omega) (by unfold maxLen; omega) (Nat.le_refl _) ?_); intro w2 ho1 hg1; rw [made_zeros, hG] at ho1; have HO : Hid (Own w2 G 5 (some ⟨G, 0, none⟩) K K (List.replicate K 0)) := ho1; have HB1 := Lib.hid (hb0.out.grown hg1 (Nat.le_refl _) (fun _ h => by cases h)); obtain ⟨P, hP⟩ : ∃ P, w2.heap.size = P := ⟨_, rfl⟩; clear ho1 hg1)
          have hGP : G < P := by rw [← hP]; exact (HO.out.base _ rfl).2
          have hgG : g < G := by rw [← hG]; exact hg2
          have hHg : H ≤ g := by rw [← hH]; exact hg1
          have hHG : H ≤ G := by omega
          have O3 : Hid (Own ((w2.alloc (.cells #[.slice (some ⟨G, 0, none⟩) K K, .int .i64 (U : Int)] 24)).alloc (.cells #[.int .u8 128, .int .u8 64, .int .u8 32, .int .u8 16, .int .u8 8, .int .u8 4, .int .u8 2, .int .u8 1] 5)) G 5 (some ⟨G, 0, none⟩) K K (bytesF (inL (L.take 0)) K)) := by
            rw [Hid, List.take_zero, inL_nil, bytesF_none]
            exact HO.out.below (bal (bal (Below.refl _ _) _) _)
          have Z3 : Hid (Blk ((w2.alloc (.cells #[.slice (some ⟨G, 0, none⟩) K K, .int .i64 (U : Int)] 24)).alloc (.cells #[.int .u8 128, .int .u8 64, .int .u8 32, .int .u8 16, .int .u8 8, .int .u8 4, .int .u8 2, .int .u8 1] 5)) P 24 #[.slice (some ⟨G, 0, none⟩) K K, .int .i64 (U : Int)]) := by
            rw [← hP]
            exact (Blk.new _ _ _).alloc _
          have V3 : Hid (Blk ((w2.alloc (.cells #[.slice (some ⟨G, 0, none⟩) K K, .int .i64 (U : Int)] 24)).alloc (.cells #[.int .u8 128, .int .u8 64, .int .u8 32, .int .u8 16, .int .u8 8, .int .u8 4, .int .u8 2, .int .u8 1] 5)) (P + 1) 5 #[.int .u8 128, .int .u8 64, .int .u8 32, .int .u8 16, .int .u8 8, .int .u8 4, .int .u8 2, .int .u8 1]) := by
            have h := Blk.new (w2.alloc (.cells #[.slice (some ⟨G, 0, none⟩) K K, .int .i64 (U : Int)] 24)) 5 #[.int .u8 128, .int .u8 64, .int .u8 32, .int .u8 16, .int .u8 8, .int .u8 4, .int .u8 2, .int .u8 1]
            rw [show (w2.alloc (.cells #[.slice (some ⟨G, 0, none⟩) K K, .int .i64 (U : Int)] 24)).heap.size = P + 1 by simp [hP]] at h
            exact h
          have QB : Hid (Below G w1 ((w2.alloc (.cells #[.slice (some ⟨G, 0, none⟩) K K, .int .i64 (U : Int)] 24)).alloc (.cells #[.int .u8 128, .int .u8 64, .int .u8 32, .int .u8 16, .int .u8 8, .int .u8 4, .int .u8 2, .int .u8 1] 5))) := by
            rw [← hG]
            exact bal (bal HB1.out _) _
          have M3 := Lib.hid (M1.out.below (by rw [hG]; exact QB.out))
          have Q3 := Lib.hid (Q1.out.trans (QB.out.mono hHG))
          clear HO HB1 QB hb0 hc
          generalize ((w2.alloc (.cells #[.slice (some ⟨G, 0, none⟩) K K, .int .i64 (U : Int)] 24)).alloc (.cells #[.int .u8 128, .int .u8 64, .int .u8 32, .int .u8 16, .int .u8 8, .int .u8 4, .int .u8 2, .int .u8 1] 5)) = w3 at *
          go_loopw [10] (fun i wr => ∃ k : Nat, k ≤ z + 1 ∧ i = .int .i64 k ∧ Own wr G 5 (some ⟨G, 0, none⟩) K K (bytesF (inL (L.take k)) K) ∧ Blk wr P 24 #[.slice (some ⟨G, 0, none⟩) K K, .int .i64 (U : Int)] ∧ Blk wr (P + 1) 5 #[.int .u8 128, .int .u8 64, .int .u8 32, .int .u8 16, .int .u8 8, .int .u8 4, .int .u8 2, .int .u8 1] ∧ OwnK .i64 wr H 3 (some ⟨g, 0, none⟩) (z + 1) c1 L ∧ Below H w wr) (fun i _ => z + 1 - (intOf i).toNat)
          case atStart => exact ⟨0, Nat.zero_le _, rfl, O3.out, Z3.out, V3.out, by rw [← hH]; exact M3.out, Q3.out⟩
          case round =>
            obtain ⟨k, hk, rfl, ho, hzb, hvb, hmb, hq⟩ := hrel
            have O4 := Lib.hid ho
            have Z4 := Lib.hid hzb
            have V4 := Lib.hid hvb
            have M4 := Lib.hid hmb
            have B4 := Lib.hid hq
            clear ho hzb hvb hmb hq
            have hk0 : (0 : Int) ≤ k := by omega
            have y0 := Z4.out.cell 0
            have y1 := Z4.out.cell 1
            have yl := Z4.out.lt
            simp only [List.getElem?_toArray, List.getElem?_cons_zero, List.getElem?_cons_succ] at y0 y1
            by_cases hlt : k < z + 1
            · have hkL : k < L.length := by have := HZ.out; omega
              have hcm := M4.out.cell hkL
              have hlt2 : (k : Int) < z + 1 := by omega
              have ht := HBL.out L[k] (List.getElem_mem hkL)
              have HR := Lib.hid (HRD.out k K hkL)
              obtain ⟨T, hT⟩ : ∃ T, L[k] = T := ⟨_, rfl⟩
              rw [hT] at hcm ht
              simp only [Hid, hT] at HR
              have hI : T / 8 < K := by omega
              obtain ⟨x, hx⟩ : ∃ x, (bytesF (inL (L.take k)) K)[T / 8]'(by rw [bytesF_len]; exact hI) = x := ⟨_, rfl⟩
              obtain ⟨hr1, hr2, hr3⟩ := HR x hI hx
              obtain ⟨y, hy⟩ : ∃ y, upB (inL (L.take k)) T = y := ⟨_, rfl⟩
              rw [hy] at hr2 hr3
              have HR3 := Lib.hid hr3
              obtain ⟨I, hI'⟩ : ∃ I, T / 8 = I := ⟨_, rfl⟩
              obtain ⟨J, hJ'⟩ : ∃ J, T % 8 = J := ⟨_, rfl⟩
              have h81 : (T : Int) / 8 = (I : Int) := by omega
              have h82 : (T : Int) % 8 = (J : Int) := by omega
              have hJ8 : (J : Int) < 8 := by omega
              have hJ9 : J < 8 := by omega
              have hxI : ∀ h, (bytesF (inL (L.take k)) K)[I]'h = x := by
                subst hI'
                exact fun _ => hx
              have hc9 := O4.out.cell (j := I) (by rw [bytesF_len]; omega)
              rw [hxI] at hc9
              have hf8 := O4.out.frozen I
              have hl8 := (O4.out.base _ rfl).2
              have OF := Lib.hid (O4.out.stored I y)
              have hcv := (V4.out.cell J).trans (vals_at hJ9)
              have hvl := V4.out.lt
              have hxb := byte_bd x
              have hyb := byte_bd y
              rw [hJ'] at hr2
              obtain ⟨p, hp⟩ : ∃ p, 2 ^ (7 - J) = p := ⟨_, rfl⟩
              rw [hp] at hr2 hcv
              have hsum : (x.toNat : Int) + p = y.toNat := by omega
              rw [hI'] at hI HR3
              have hI2 : (I : Int) < K := by omega
              clear hx hxI hr1 hr2 hr3 HR hI' hJ' hT hy hp
              have ZF := Lib.hid (Z4.out.far (p := ⟨G, I, none⟩) (by show P ≠ G; omega) (.int .u8 (y.toNat : Int)))
              have VF := Lib.hid (V4.out.far (p := ⟨G, I, none⟩) (by show P + 1 ≠ G; omega) (.int .u8 (y.toNat : Int)))
              have MF : Hid (OwnK .i64 (wr.setCell ⟨G, I, none⟩ (.int .u8 (y.toNat : Int))) H 3 (some ⟨g, 0, none⟩) (z + 1) c1 L) := M4.out.keep (fun v hv => by
                injection hv with hv
                subst hv
                exact Below.heap_setCell wr ⟨G, I, none⟩ _ g (by show g ≠ G; omega))
              have BF : Hid (Below H w (wr.setCell ⟨G, I, none⟩ (.int .u8 (y.toNat : Int)))) := B4.out.setCell (by show H ≤ G; omega) _
              rw [← HR3.out] at OF
              go_wp2_with fail
              go_region
              go_wp2
              exact ⟨⟨k + 1, by omega, by go_num, OF.out, ZF.out, VF.out, MF.out, BF.out.drew⟩, by simp [intOf]; omega⟩
            · obtain rfl : k = z + 1 := by omega
              have e : L.take (z + 1) = L := List.take_of_length_le (by have := HZ.out; omega)
              rw [e, HIN.out] at O4
              have HE := Lib.hid (ref_benc_any O4.out.bs (U : Int) (by omega))
              unfold bV at HE
              rw [HEB.out.1, HEB.out.2] at HE
              have hlt2 : ¬ ((z + 1 : Nat) : Int) < (z : Int) + 1 := by omega
              go_wp2_with fail
              with_reducible refine HE.out.mono ?_
              rintro e w5 ⟨a5, c5, rfl, ho5, q5⟩
              have O5 := Lib.hid (ho5.more B4.out.size)
              have B5 : Hid (Below w.heap.size w w5) := by
                rw [hH]
                exact B4.out.trans (q5.mono (by have := B4.out.size; omega))
              clear ho5 q5
              go_wp2
              go_ret2
              exact ⟨a5, c5, rfl, O5.out, B5.out⟩
        · rw [(en_no (s := S) (m := M) (by rw [Int.toNat_natCast, Int.toNat_natCast]; omega)).1, (en_no (s := S) (m := M) (by rw [Int.toNat_natCast, Int.toNat_natCast]; omega)).2]
          have htM : (M : Int) ≤ topN S := by have := HT.out; omega
          clear hs hS31 hs0 hlt HT
          obtain ⟨t, ht⟩ : ∃ t, topN S = t := ⟨_, rfl⟩
          rw [ht] at htM hlast
          go_enter Try.func23, Try.ntmps23
          go_wp2_with fail
          with_reducible refine (HM.out _).mono ?_
          rintro e w1 ⟨a1, c1, rfl, ho, q⟩
          obtain ⟨g, ha, hg1, hg2⟩ := ho.pos (by omega)
          subst ha
          have hc := ho.cell_is hlast
          have Q := Lib.hid q
          clear q ho
          go_wp2_with fail
          go_ret2
          exact ⟨none, 0, rfl, World.ownsRow_nil _ _ _ _, Q.out⟩
  · rw [(en_no (s := s) (m := m) (by omega)).1, (en_no (s := s) (m := m) (by omega)).2]
    by_cases hm1 : m < 1
    · go_enter Try.func23, Try.ntmps23
      go_wp2_with fail
      go_ret2
      exact ⟨none, 0, rfl, World.ownsRow_nil _ _ _ _, Below.refl _ _⟩
    · have hm2 : (32 : Int) < m := by omega
      go_enter Try.func23, Try.ntmps23
      go_wp2_with fail
      go_ret2
      exact ⟨none, 0, rfl, World.ownsRow_nil _ _ _ _, Below.refl _ _⟩
end Go.Proofs.Ytfflfahhfhnkdaa
