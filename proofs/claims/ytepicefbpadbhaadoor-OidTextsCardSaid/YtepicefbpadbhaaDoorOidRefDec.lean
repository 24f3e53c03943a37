/-
  Contract of the reference's Decode.
-/
import Derived.Test.YtepicefbpadbhaaDoorOidRefText
import Derived.Test.YtepicefbpadbhaaDoorOidRefEnc2
import Derived.Test.YtepicefbpadbhaaDoorOidDecMath
import Derived.Test.YtepicefbpadbhaaDoorBytesEq
namespace Go.Proofs.YtepicefbpadbhaaDoor
open Go.RowKit

theorem info_u64 : (Tryd.prog.info? 49).map (fun i => (i.zero, i.size, i.bytes)) = some (some (.int .u64 0), 1, 8) := by kernel_rfl
theorem rdS_far {x : UInt8} {r : List UInt8} {n : Nat} {all : List Nat} (hm : maxArc < n * 128 + x.toNat % 128) : rdS (x :: r) n all = none := by rw [rdS, if_pos hm]
theorem rdS_end {x : UInt8} {r : List UInt8} {n : Nat} {all : List Nat} (hm : ¬ maxArc < n * 128 + x.toNat % 128) (hx : x.toNat < 128) : rdS (x :: r) n all = rdS r 0 (all ++ [n * 128 + x.toNat % 128]) := by rw [rdS, if_neg hm, if_pos hx]
theorem rdS_more {x : UInt8} {r : List UInt8} {n : Nat} {all : List Nat} (hm : ¬ maxArc < n * 128 + x.toNat % 128) (hx : ¬ x.toNat < 128) : rdS (x :: r) n all = rdS r (n * 128 + x.toNat % 128) all := by rw [rdS, if_neg hm, if_neg hx]
theorem dec_of_none {c : List UInt8} (h : rdS c 0 [] = none) : decO c = none := by unfold decO; rw [h]
theorem dec_of_nil {c : List UInt8} (h : rdS c 0 [] = some []) : decO c = none := by unfold decO; rw [h]; simp
theorem dec_of_some {c : List UInt8} {ss : List Nat} (h : rdS c 0 [] = some ss) (hn : ss ≠ []) (he : encO (arcsOf ss) = c) : decO c = some (arcsOf ss) := by unfold decO; rw [h]; simp only; rw [if_pos ⟨hn, he⟩]
theorem dec_of_other {c : List UInt8} {ss : List Nat} (h : rdS c 0 [] = some ss) (he : encO (arcsOf ss) ≠ c) : decO c = none := by unfold decO; rw [h]; simp only; rw [if_neg (fun e => he e.2)]
theorem textO_len {A : List Nat} (hb : ∀ x ∈ A, x ≤ maxArc) : (textO A).length ≤ 12 * A.length := by
  have := tTo_len hb A.length (Nat.le_refl _)
  rw [tTo_all] at this
  exact this

set_option maxRecDepth 100000 in
set_option maxHeartbeats 8000000 in
theorem refDecode_any {w : World} {a : Option Addr} {n c : Nat} {cs : List UInt8} (h : Bs w a n c cs) (hn : n ≤ 500) :
    Calls Tryd.prog 20 #[.slice a n c] w fun e w' => e = .returned (.tuple #[.string ⟨(dT cs).toArray⟩, .int .i64 (dC cs)]) ∧ Below w.heap.size w w' := by
  obtain ⟨i0, hi, hz0, hz1, hz2⟩ := info_parts info_u64
  obtain ⟨j0, hj, hy0, hy1, hy2⟩ := info_parts info_u32
  have HX := Lib.hid h
  have HL := Lib.hid h.1
  have hn2 : (n : Int) ≤ 500 := by omega
  clear h
  go_enter Tryd.func20, Tryd.ntmps20
  go_wp2_with fail
  go_loopw [4, 5, 6] (fun o nv i wr => ∃ (a' : Option Addr) (c' : Nat) (all : List Nat) (N k : Nat), k ≤ n ∧ i = .int .i64 k ∧ o = .slice a' all.length c' ∧ nv = .int .u64 (N : Int) ∧ all.length ≤ k ∧ N ≤ 4294967295 ∧ Hid (rdS cs 0 [] = rdS (cs.drop k) N all) ∧ OwnK .u64 wr w.heap.size 49 a' all.length c' all ∧ Below w.heap.size w wr) (fun _ _ i _ => n - (intOf i).toNat)
  case atStart => exact ⟨none, 0, [], 0, 0, Nat.zero_le _, rfl, rfl, rfl, Nat.le_refl _, by omega, rfl, OwnK.nil_ _ _ _ _, Below.refl _ _⟩
  case round =>
    obtain ⟨a', c', all, N, k, hk, rfl, rfl, rfl, hlk, hNb, HR, ho, hb⟩ := hrel
    have HO := Lib.hid ho
    have HB := Lib.hid hb
    have hsz := hb.size
    have hk0 : (0 : Int) ≤ k := by omega
    have hN0 : (0 : Int) ≤ N := by omega
    have hN1 : (N : Int) ≤ 4294967295 := by omega
    obtain ⟨M, hM⟩ : ∃ M, all.length = M := ⟨_, rfl⟩
    have HM := Lib.hid hM
    rw [hM] at HO hlk ⊢
    clear ho hb hM
    by_cases hlt : k < n
    · have hkl : k < cs.length := by have := HL.out; omega
      obtain ⟨bb, off, hkl', rfl, _, hc⟩ := (HX.out.below HB.out).at_ hlt
      have hdrop := List.drop_eq_getElem_cons hkl
      obtain ⟨x, hx⟩ : ∃ x, cs[k]'hkl = x := ⟨_, rfl⟩
      have HRk := HR.out
      rw [hdrop] at HRk
      rw [hx] at hc HRk
      have hlt2 : (k : Int) < n := by omega
      have hxb := byte_bd x
      obtain ⟨r, hr⟩ : ∃ r, x.toNat % 128 = r := ⟨_, rfl⟩
      have hr2 : (x.toNat : Int) % 128 = r := by omega
      have hr4 : (0 : Int) ≤ r := by omega
      have hr5 : (r : Int) < 128 := by omega
      have hw1 : IntKind.u64.wrap ((N : Int) * 128) = (N : Int) * 128 := by rw [IntKind.wrap_u64]; omega
      have hw2 : IntKind.u64.wrap (r : Int) = r := by rw [IntKind.wrap_u64]; omega
      obtain ⟨V, hV⟩ : ∃ V, N * 128 + r = V := ⟨_, rfl⟩
      have hw3 : IntKind.u64.wrap ((N : Int) * 128 + r) = V := by rw [IntKind.wrap_u64]; omega
      have hV0 : (0 : Int) ≤ V := by omega
      have hV1 : (V : Int) ≤ 549755813887 := by omega
      clear hx hkl' hdrop
      by_cases hfar : maxArc < V
      · have HE : Hid (dC cs = 6 ∧ dT cs = []) := d_none (dec_of_none (by rw [HRk]; exact rdS_far (by rw [hr, hV]; exact hfar)))
        have hfar2 : (V : Int) > 4294967295 := by unfold maxArc at hfar; omega
        clear HRk hV hr
        go_wp2_with fail
        go_ret2
        exact ⟨by rw [HE.out.1, HE.out.2]; rfl, HB.out⟩
      · have hV2 : V ≤ 4294967295 := by unfold maxArc at hfar; omega
        have hV3 : ¬ (V : Int) > 4294967295 := by omega
        have hV4 : (V : Int) ≤ 4294967295 := by omega
        by_cases hlow : x.toNat < 128
        · have HE : Hid (rdS cs 0 [] = rdS (cs.drop (k + 1)) 0 (all ++ [V])) := by
            rw [Hid, HRk, rdS_end (by rw [hr, hV]; exact hfar) hlow, hr, hV]
          have hlow2 : (x.toNat : Int) < 128 := by omega
          clear HRk hV hr
          go_wp2_with (at_builtin; go_must (refine wpList_appK _ rfl _ _ 59 rfl w.heap.size 49 i0 Tryd.underlying59 hi hz0 hz1 (by rw [hz2]; omega) a' M c' all rfl (HO.out.alloc _) _ 1 1 [V] rfl (uk_lit_at rfl rfl rfl (by unfold maxLen; omega)) (by omega) (by simp; omega) ?_))
          intro a3 c3 w3 ho3 hg3
          have B3 := Lib.hid ((bal HB.out _).trans (OwnK.app_below (HO.out.alloc _) hg3 (Nat.le_refl _) (by simp; omega)))
          have O3 := Lib.hid ho3
          have EL : Hid ((all ++ [V]).length = M + 1) := by rw [Hid, List.length_append, HM.out]; rfl
          clear ho3 hg3
          go_wp2
          exact ⟨⟨a3, c3, all ++ [V], 0, k + 1, by omega, by go_num, by rw [EL.out], rfl, by rw [EL.out]; omega, by omega, HE.out, by rw [EL.out]; exact O3.out, B3.out⟩, by simp [intOf]; omega⟩
        · have HE : Hid (rdS cs 0 [] = rdS (cs.drop (k + 1)) V all) := by
            rw [Hid, HRk, rdS_more (by rw [hr, hV]; exact hfar) hlow, hr, hV]
          have hlow2 : ¬ (x.toNat : Int) < 128 := by omega
          clear HRk hV hr
          go_wp2_with fail
          exact ⟨⟨a', c', all, V, k + 1, by omega, by go_num, by rw [HM.out], rfl, by rw [HM.out]; omega, hV2, HE.out, by rw [HM.out]; exact HO.out, HB.out⟩, by simp [intOf]; omega⟩
    · obtain rfl : k = n := by omega
      have HRk := HR.out
      rw [List.drop_eq_nil_of_le (by have := HL.out; omega), rdS] at HRk
      have HRE := Lib.hid HRk
      have hlt2 : ¬ (k : Int) < k := by omega
      clear HRk HR
      match all, HM, HO, HRE with
      | [], HM, HO, HRE =>
        obtain rfl : M = 0 := HM.out.symm
        have HE : Hid (dC cs = 6 ∧ dT cs = []) := d_none (dec_of_nil HRE.out)
        go_wp2_with fail
        go_ret2
        exact ⟨by rw [HE.out.1, HE.out.2]; rfl, HB.out⟩
      | s :: r, HM, HO, HRE =>
        obtain ⟨w4, rfl⟩ : ∃ w4, w4 = wr := ⟨_, rfl⟩
        have hbd := rdS_bd cs 0 [] (s :: r) HRE.out (by simp)
        have hs := hbd s (by simp)
        obtain ⟨hok, hsid⟩ := okO_arcsOf hbd (by simp)
        obtain ⟨R, hR⟩ : ∃ R, (if s < 80 then s / 40 else 2) = R := ⟨_, rfl⟩
        obtain ⟨D, hD⟩ : ∃ D, s - 40 * R = D := ⟨_, rfl⟩
        have hAO : arcsOf (s :: r) = R :: D :: r := by
          show (if s < 80 then s / 40 else 2) :: (s - 40 * (if s < 80 then s / 40 else 2)) :: r = _
          rw [hR, hD]
        rw [hAO] at hok
        have HAO := Lib.hid hAO
        have HOK := Lib.hid hok
        have HMr : Hid (r.length + 1 = M) := HM.out
        have hM1 : 1 ≤ M := by have := HMr.out; omega
        have hM0 : 0 < M := by omega
        have hM0i : (0 : Int) < M := by omega
        have hMb : (M : Int) ≤ 500 := by omega
        have htl := textO_len hok.2
        have hlA : (R :: D :: r).length = M + 1 := by have := HMr.out; simp only [List.length_cons]; omega
        rw [hlA] at htl
        have HTX : Hid (∀ {w' : World} {a : Option Addr} {c : Nat}, Uk .u32 w' a (M + 1) c (R :: D :: r) → Calls Tryd.prog 12 #[.slice a (M + 1) c] w' fun e w'' => e = .returned (.tuple #[.string ⟨(textO (R :: D :: r)).toArray⟩, .int .i64 0]) ∧ w' = w'') := by
          intro w' a c hu
          have h1 := refText_any hu hok.2 (by omega)
          unfold tT tC at h1
          rw [if_pos hok.1, if_pos hok.1] at h1
          exact h1
        have HEN : Hid (∀ w' : World, Calls Tryd.prog 17 #[.string ⟨(textO (R :: D :: r)).toArray⟩] w' fun e w'' => ∃ a c, e = .returned (.tuple #[.slice a (encO (R :: D :: r)).length c, .int .i64 0]) ∧ Own w'' w'.heap.size 5 a (encO (R :: D :: r)).length c (encO (R :: D :: r)) ∧ Below w'.heap.size w' w'') := by
          intro w'
          have h1 := refEncode_any w' (textO (R :: D :: r)) (by omega)
          have h2 := e_some (arcs_text hok)
          rw [h2.1, h2.2] at h1
          exact h1
        unfold maxArc at hs
        have hRb : R ≤ 2 ∧ 40 * R ≤ s := by rw [← hR]; split <;> omega
        have hR0 : (0 : Int) ≤ R := by omega
        have hw1 : IntKind.u32.wrap (R : Int) = R := by rw [IntKind.wrap_u32]; omega
        have hw2 : IntKind.u64.wrap (40 * (R : Int)) = 40 * (R : Int) := by rw [IntKind.wrap_u64]; omega
        have hw3 : IntKind.u64.wrap ((s : Int) - 40 * (R : Int)) = D := by rw [IntKind.wrap_u64]; omega
        have hw4 : IntKind.u32.wrap (D : Int) = D := by rw [IntKind.wrap_u32]; omega
        have hs0 : (0 : Int) ≤ s := by omega
        have hs1 : (s : Int) ≤ 4294967295 := by omega
        have hbr : Hid (∀ (j : Nat) (hj : j < (s :: r).length), (s :: r)[j] ≤ 4294967295) := fun j hj => hbd _ (List.getElem_mem hj)
        obtain ⟨g, rfl, hg0, hg1⟩ := HO.out.pos (by omega)
        have q0 := HO.out.cell (j := 0) (by simp)
        simp only [List.getElem_cons_zero] at q0
        obtain ⟨G, hG⟩ : ∃ G, w4.heap.size = G := ⟨_, rfl⟩
        rw [hG] at hg1
        have OL : Hid (OwnK .u32 (w4.alloc (.cells #[.int .u32 (R : Int), .int .u32 (D : Int)] 45)) G 45 (some ⟨w4.heap.size, 0, none⟩) 2 2 [R, D]) := ownK_lit _ _ _ 2 rfl rfl (by unfold maxLen; omega) (by omega)
        have BL : Hid (Below G w4 (w4.alloc (.cells #[.int .u32 (R : Int), .int .u32 (D : Int)] 45))) := by rw [← hG]; exact bal (Below.refl _ _) _
        have HTA : Hid (∀ j, 1 ≤ j → ∀ hj : j < (s :: r).length, (R :: D :: r).take (j + 2) = (R :: D :: r).take (j + 1) ++ [(s :: r)[j]]) := by
          intro j h1 hj
          simp only [List.length_cons] at hj
          have hj2 : j + 1 < (R :: D :: r).length := by simp only [List.length_cons]; omega
          rw [List.take_succ_eq_append_getElem hj2]
          congr 2
          match j, h1 with
          | j + 1, _ => rfl
        rw [hG] at OL
        clear hok hsid hAO hbd hlA htl HM
        by_cases h80 : s < 80
        · have h80' : (s : Int) < 80 := by omega
          rw [if_pos h80] at hR
          have hdv : (s : Int) / 40 = R := by omega
          have hDi : (D : Int) = (s : Int) - 40 * (R : Int) := by omega
          rw [hDi] at OL BL
          have hRb2 : 40 * (R : Int) ≤ s := by omega
          clear hR hD h80 hDi
          obtain ⟨W1, hW1⟩ : ∃ W1, w4.alloc (.cells #[.int .u32 (R : Int), .int .u32 ((s : Int) - 40 * (R : Int))] 45) = W1 := ⟨_, rfl⟩
          rw [hW1] at OL BL
          clear hw2 hw3 hw4
          go_wp2_with fail
          go_loopw [8, 9] (fun o i w5 => ∃ (j : Nat) (a5 : Option Addr) (c5 : Nat), 1 ≤ j ∧ j ≤ M ∧ i = .int .i64 j ∧ o = .slice a5 (j + 1) c5 ∧ OwnK .u32 w5 G 45 a5 (j + 1) c5 ((R :: D :: r).take (j + 1)) ∧ Below G w4 w5) (fun _ i _ => M - (intOf i).toNat)
          case atStart => exact ⟨1, some ⟨G, 0, none⟩, 2, Nat.le_refl _, hM1, rfl, rfl, OL.out, BL.out⟩
          case round =>
            obtain ⟨j, a5, c5, hj1, hjM, rfl, rfl, ho5, hb5⟩ := hrel
            have O5 := Lib.hid ho5
            have B5 := Lib.hid hb5
            have hsz5 : G ≤ _ := Nat.le_trans (Nat.le_of_eq hG.symm) hb5.size
            have hj0 : (0 : Int) ≤ j := by omega
            clear ho5 hb5
            by_cases hlt5 : j < M
            · have hjl : j < (s :: r).length := by have := HMr.out; simp only [List.length_cons]; omega
              have hc5 := (B5.out.cell (p := ⟨g, j, none⟩) hg1).trans (HO.out.cell hjl)
              have hx := hbr.out j hjl
              have HS := Lib.hid (HTA.out j hj1 hjl)
              obtain ⟨v, hv⟩ : ∃ v, (s :: r)[j]'hjl = v := ⟨_, rfl⟩
              rw [hv] at hc5 hx HS
              have hwv : IntKind.u32.wrap (v : Int) = v := by rw [IntKind.wrap_u32]; omega
              have hlt6 : (j : Int) < M := by omega
              obtain ⟨T, hT⟩ : ∃ T, (R :: D :: r).take (j + 1) = T := ⟨_, rfl⟩
              rw [hT] at O5 HS
              clear hv hx hT
              go_wp2_with (at_builtin; go_must (refine wpList_appK _ rfl _ _ 22 rfl G 45 j0 Tryd.underlying22 hj hy0 hy1 (by rw [hy2]; omega) a5 (j + 1) c5 _ rfl (O5.out.alloc _) _ 1 1 [v] rfl (uk_lit_at rfl rfl rfl (by unfold maxLen; omega)) (by omega) (by simp; omega) ?_))
              intro a6 c6 w6 ho6 hg6
              have q6 := OwnK.app_below (O5.out.alloc (.cells #[.int .u32 (v : Int)] 45)) hg6 (Nat.le_refl _) (by simp; omega)
              have B6 : Hid (Below G w4 w6) := (B5.out.trans ((Below.refl G _).alloc hsz5 _)).trans q6
              have O6 := Lib.hid ho6
              rw [← HS.out] at O6
              clear ho6 hg6 q6
              go_wp2
              exact ⟨⟨j + 1, a6, c6, by omega, by omega, by go_num, rfl, O6.out, B6.out⟩, by simp [intOf]; omega⟩
            · obtain rfl : j = M := by omega
              have HT : Hid ((R :: D :: r).take (j + 1) = R :: D :: r) := List.take_of_length_le (by have := HMr.out; simp only [List.length_cons]; omega)
              rw [HT.out] at O5
              have hlt6 : ¬ (j : Int) < j := by omega
              have BG : Hid (∀ w7, Below G w4 w7 → Below w.heap.size w w7) := fun w7 h7 => HB.out.trans (h7.mono (by omega))
              clear hlt5
              go_wp2_with fail
              refine (HTX.out O5.out.uk).mono ?_
              rintro e w7 ⟨rfl, rfl⟩
              go_wp2_with fail
              refine (HEN.out _).mono ?_
              rintro e w8 ⟨a8, c8, rfl, ho8, hb8⟩
              have B8 : Hid (Below w.heap.size w w8) := BG.out _ (B5.out.trans (hb8.mono hsz5))
              have HBE := Lib.hid (bytes_any ho8.bs (HX.out.below B8.out))
              clear ho8 hb8
              by_cases he : encO (R :: D :: r) = cs
              · have HE := Lib.hid (d_some (dec_of_some HRE.out (by simp) (by rw [HAO.out]; exact he)))
                rw [HAO.out] at HE
                rw [he, eqB_self] at HBE
                rw [he]
                clear he
                go_wp2_with fail
                refine HBE.out.mono ?_
                rintro e w9 ⟨rfl, rfl⟩
                go_wp2
                go_ret2
                exact ⟨by rw [HE.out.1, HE.out.2]; rfl, B8.out⟩
              · have HE := Lib.hid (d_none (dec_of_other HRE.out (by rw [HAO.out]; exact he)))
                rw [show eqB (encO (R :: D :: r)) cs = false from by simpa [eqB] using he] at HBE
                clear he
                go_wp2_with fail
                refine HBE.out.mono ?_
                rintro e w9 ⟨rfl, rfl⟩
                go_wp2
                go_ret2
                exact ⟨by rw [HE.out.1, HE.out.2]; rfl, B8.out⟩
        · have h80' : ¬ (s : Int) < 80 := by omega
          rw [if_neg h80] at hR
          subst hR
          have hDi : (D : Int) = (s : Int) - 80 := by omega
          have OL2 : Hid (OwnK .u32 (w4.alloc (.cells #[.int .u32 2, .int .u32 ((s : Int) - 80)] 45)) G 45 (some ⟨G, 0, none⟩) 2 2 [2, D]) := by rw [Hid, ← hDi]; exact OL.out
          have BL2 : Hid (Below G w4 (w4.alloc (.cells #[.int .u32 2, .int .u32 ((s : Int) - 80)] 45))) := by rw [Hid, ← hDi]; exact BL.out
          clear OL BL
          have OL := OL2
          have BL := BL2
          clear hD h80 hDi OL2 BL2
          obtain ⟨W1, hW1⟩ : ∃ W1, w4.alloc (.cells #[.int .u32 2, .int .u32 ((s : Int) - 80)] 45) = W1 := ⟨_, rfl⟩
          rw [hW1] at OL BL
          clear hw2 hw3 hw4
          go_wp2_with fail
          go_loopw [8, 9] (fun o i w5 => ∃ (j : Nat) (a5 : Option Addr) (c5 : Nat), 1 ≤ j ∧ j ≤ M ∧ i = .int .i64 j ∧ o = .slice a5 (j + 1) c5 ∧ OwnK .u32 w5 G 45 a5 (j + 1) c5 ((2 :: D :: r).take (j + 1)) ∧ Below G w4 w5) (fun _ i _ => M - (intOf i).toNat)
          case atStart => exact ⟨1, some ⟨G, 0, none⟩, 2, Nat.le_refl _, hM1, rfl, rfl, OL.out, BL.out⟩
          case round =>
            obtain ⟨j, a5, c5, hj1, hjM, rfl, rfl, ho5, hb5⟩ := hrel
            have O5 := Lib.hid ho5
            have B5 := Lib.hid hb5
            have hsz5 : G ≤ _ := Nat.le_trans (Nat.le_of_eq hG.symm) hb5.size
            have hj0 : (0 : Int) ≤ j := by omega
            clear ho5 hb5
            by_cases hlt5 : j < M
            · have hjl : j < (s :: r).length := by have := HMr.out; simp only [List.length_cons]; omega
              have hc5 := (B5.out.cell (p := ⟨g, j, none⟩) hg1).trans (HO.out.cell hjl)
              have hx := hbr.out j hjl
              have HS := Lib.hid (HTA.out j hj1 hjl)
              obtain ⟨v, hv⟩ : ∃ v, (s :: r)[j]'hjl = v := ⟨_, rfl⟩
              rw [hv] at hc5 hx HS
              have hwv : IntKind.u32.wrap (v : Int) = v := by rw [IntKind.wrap_u32]; omega
              have hlt6 : (j : Int) < M := by omega
              obtain ⟨T, hT⟩ : ∃ T, (2 :: D :: r).take (j + 1) = T := ⟨_, rfl⟩
              rw [hT] at O5 HS
              clear hv hx hT
              go_wp2_with (at_builtin; go_must (refine wpList_appK _ rfl _ _ 22 rfl G 45 j0 Tryd.underlying22 hj hy0 hy1 (by rw [hy2]; omega) a5 (j + 1) c5 _ rfl (O5.out.alloc _) _ 1 1 [v] rfl (uk_lit_at rfl rfl rfl (by unfold maxLen; omega)) (by omega) (by simp; omega) ?_))
              intro a6 c6 w6 ho6 hg6
              have q6 := OwnK.app_below (O5.out.alloc (.cells #[.int .u32 (v : Int)] 45)) hg6 (Nat.le_refl _) (by simp; omega)
              have B6 : Hid (Below G w4 w6) := (B5.out.trans ((Below.refl G _).alloc hsz5 _)).trans q6
              have O6 := Lib.hid ho6
              rw [← HS.out] at O6
              clear ho6 hg6 q6
              go_wp2
              exact ⟨⟨j + 1, a6, c6, by omega, by omega, by go_num, rfl, O6.out, B6.out⟩, by simp [intOf]; omega⟩
            · obtain rfl : j = M := by omega
              have HT : Hid ((2 :: D :: r).take (j + 1) = 2 :: D :: r) := List.take_of_length_le (by have := HMr.out; simp only [List.length_cons]; omega)
              rw [HT.out] at O5
              have hlt6 : ¬ (j : Int) < j := by omega
              have BG : Hid (∀ w7, Below G w4 w7 → Below w.heap.size w w7) := fun w7 h7 => HB.out.trans (h7.mono (by omega))
              clear hlt5
              go_wp2_with fail
              refine (HTX.out O5.out.uk).mono ?_
              rintro e w7 ⟨rfl, rfl⟩
              go_wp2_with fail
              refine (HEN.out _).mono ?_
              rintro e w8 ⟨a8, c8, rfl, ho8, hb8⟩
              have B8 : Hid (Below w.heap.size w w8) := BG.out _ (B5.out.trans (hb8.mono hsz5))
              have HBE := Lib.hid (bytes_any ho8.bs (HX.out.below B8.out))
              clear ho8 hb8
              by_cases he : encO (2 :: D :: r) = cs
              · have HE := Lib.hid (d_some (dec_of_some HRE.out (by simp) (by rw [HAO.out]; exact he)))
                rw [HAO.out] at HE
                rw [he, eqB_self] at HBE
                rw [he]
                clear he
                go_wp2_with fail
                refine HBE.out.mono ?_
                rintro e w9 ⟨rfl, rfl⟩
                go_wp2
                go_ret2
                exact ⟨by rw [HE.out.1, HE.out.2]; rfl, B8.out⟩
              · have HE := Lib.hid (d_none (dec_of_other HRE.out (by rw [HAO.out]; exact he)))
                rw [show eqB (encO (2 :: D :: r)) cs = false from by simpa [eqB] using he] at HBE
                clear he
                go_wp2_with fail
                refine HBE.out.mono ?_
                rintro e w9 ⟨rfl, rfl⟩
                go_wp2
                go_ret2
                exact ⟨by rw [HE.out.1, HE.out.2]; rfl, B8.out⟩
end Go.Proofs.YtepicefbpadbhaaDoor
