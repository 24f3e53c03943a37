/-
  Contract of Decode (of the program).
-/
import Derived.Test.YtepicefbpadbhaaDoorOidSub
import Derived.Test.YtepicefbpadbhaaDoorConcatN
import Derived.Test.YtepicefbpadbhaaDoorOidText
import Derived.Deep.RegionHeld3
namespace Go.Proofs.YtepicefbpadbhaaDoor
open Go.RowKit

theorem subs_len : ∀ ss : List Nat, ss.length ≤ (subsO ss).length
  | [] => Nat.le_refl _
  | s :: ss => by
    have ih := subs_len ss
    show ss.length + 1 ≤ (subO s true ++ subsO ss).length
    have h1 : 0 < (subO s true).length := List.length_pos_iff.2 (subO_ne s true)
    rw [List.length_append]
    omega
theorem dec_len {c : List UInt8} {ss : List Nat} (h : decO c = some (arcsOf ss)) : ss.length ≤ c.length + 1 := by
  obtain ⟨h1, h2⟩ := dec_some h
  match ss with
  | [] => simp
  | s :: r =>
    have h3 := subs_len (sidO (arcsOf (s :: r)))
    rw [show subsO (sidO (arcsOf (s :: r))) = encO (arcsOf (s :: r)) from rfl, h2] at h3
    have h4 : (sidO (arcsOf (s :: r))).length = r.length + 1 := by simp [arcsOf, sidO]
    simp only [List.length_cons]
    omega
theorem root_min (s : Nat) : (if s < 80 then s / 40 else 2) = if s / 40 < 2 then s / 40 else 2 := by
  split <;> split <;> omega

/-- slices.Concat of a literal of two numbers and a row -/
theorem concat_two {w : World} {R D : Nat} {a : Option Addr} {n c N : Nat} {l : List Nat} (h : Uk .u32 w a n c l) (hn : n ≤ 100000) (hN : 2 + n = N) :
    Calls Tryd.prog 35 #[.slice (some ⟨w.heap.size + 1, 0, none⟩) 2 2] ((w.alloc (.cells #[.int .u32 (R : Int), .int .u32 (D : Int)] 45)).alloc (.cells #[.slice (some ⟨w.heap.size, 0, none⟩) 2 2, .slice a n c] 22)).drew fun e w' => ∃ a' c', e = .returned (.slice a' N c') ∧ Uk .u32 w' a' N c' (R :: D :: l) ∧ Below w.heap.size w w' := by
  subst hN
  have hb1 : Below w.heap.size w (w.alloc (.cells #[.int .u32 (R : Int), .int .u32 (D : Int)] 45)) := bal (Below.refl _ _) _
  have hU : Uk .u32 (w.alloc (.cells #[.int .u32 (R : Int), .int .u32 (D : Int)] 45)) (some ⟨w.heap.size, 0, none⟩) 2 2 [R, D] := uk_lit_at rfl rfl rfl (by unfold maxLen; omega)
  have hU2 := h.below hb1
  obtain ⟨w1, hw1⟩ : ∃ w1, w.alloc (.cells #[.int .u32 (R : Int), .int .u32 (D : Int)] 45) = w1 := ⟨_, rfl⟩
  have hs1 : w1.heap.size = w.heap.size + 1 := by rw [← hw1]; simp
  rw [hw1] at hU hU2 hb1 ⊢
  have hb2 : Below w1.heap.size w1 (w1.alloc (.cells #[.slice (some ⟨w.heap.size, 0, none⟩) 2 2, .slice a n c] 22)) := bal (Below.refl _ _) _
  have hx := Blk.new w1 22 #[.slice (some ⟨w.heap.size, 0, none⟩) 2 2, .slice a n c]
  rw [hs1] at hx
  have hr : RowsN ((w1.alloc (.cells #[.slice (some ⟨w.heap.size, 0, none⟩) 2 2, .slice a n c] 22)).drew) (w.heap.size + 1) [⟨some ⟨w.heap.size, 0, none⟩, 2, 2, [R, D]⟩, ⟨a, n, c, l⟩] := by
    intro i hi
    match i, hi with
    | 0, _ => exact ⟨hx.cell 0, uk_drewN (hU.below hb2) 1⟩
    | 1, _ => exact ⟨hx.cell 1, uk_drewN (hU2.below hb2) 1⟩
  have hc := concatN_any hr (by simp; omega) (by simp [totN]; omega) (by simp)
  have et : totN [⟨some ⟨w.heap.size, 0, none⟩, 2, 2, [R, D]⟩, ⟨a, n, c, l⟩] = 2 + n := by simp [totN]
  have ec : catN [⟨some ⟨w.heap.size, 0, none⟩, 2, 2, [R, D]⟩, ⟨a, n, c, l⟩] = R :: D :: l := by simp [catN]
  rw [et, ec] at hc
  refine hc.mono ?_
  rintro e w' ⟨a', c', rfl, ho, hb⟩
  refine ⟨a', c', rfl, ho.uk, hb1.trans ?_⟩
  exact ((hb2.mono (by omega)).trans (below_drewN (Below.refl _ _) 1)).trans (hb.mono (by simp; omega))

set_option maxRecDepth 100000 in
set_option maxHeartbeats 8000000 in
theorem decode_any {w : World} (hW : Wd w) {a : Option Addr} {n c : Nat} {cs : List UInt8} (h : Bs w a n c cs) (hn : n ≤ 5000) :
    Calls Tryd.prog 19 #[.slice a n c] w fun e w' => e = .returned (.tuple #[.string ⟨(dT cs).toArray⟩, .int .i64 (dC cs)]) ∧ Below w.heap.size w w' := by
  have HS := Lib.hid (subids_any h (by omega))
  rcases hp : rdP cs 0 true [] with _ | ss
  · have HE := Lib.hid (d_none (dec_prog_none hp))
    rw [hp] at HS
    clear hp h
    go_enter Tryd.func19, Tryd.ntmps19
    go_wp2_with fail
    refine HS.out.mono ?_
    rintro e w2 ⟨a2, m2, c2, rfl, _, hb⟩
    go_wp2
    go_ret2
    exact ⟨by rw [HE.out.1, HE.out.2]; rfl, hb⟩
  · obtain ⟨hd, hok, hne, hbd⟩ := dec_prog_some hp
    have HE := Lib.hid (d_some hd)
    rw [hp] at HS
    clear hp
    match ss, hne with
    | s :: r, _ =>
      have hs := hbd s (by simp)
      obtain ⟨R, hR⟩ : ∃ R, (if s / 40 < 2 then s / 40 else 2) = R := ⟨_, rfl⟩
      obtain ⟨D, hD⟩ : ∃ D, s - 40 * R = D := ⟨_, rfl⟩
      have HAO : Hid (arcsOf (s :: r) = R :: D :: r) := by
        show (if s < 80 then s / 40 else 2) :: (s - 40 * (if s < 80 then s / 40 else 2)) :: r = _
        rw [root_min, hR, hD]
      have HOK : Hid (okO (R :: D :: r)) := by rw [Hid, ← HAO.out]; exact hok
      obtain ⟨q, hq⟩ : ∃ q, s / 40 = q := ⟨_, rfl⟩
      rw [hq] at hR
      unfold maxArc at hs
      have hq2 : (s : Int) / 40 = q := by omega
      have hRb : R ≤ 2 ∧ 40 * R ≤ s := by rw [← hR]; split <;> omega
      have hw1 : IntKind.u32.wrap ((R : Int) * 40) = (R : Int) * 40 := by rw [IntKind.wrap_u32]; omega
      have hw2 : IntKind.u32.wrap ((s : Int) - (R : Int) * 40) = D := by rw [IntKind.wrap_u32]; omega
      have hs0 : (0 : Int) ≤ s := by omega
      have hs1 : (s : Int) ≤ 4294967295 := by omega
      have hq0 : (0 : Int) ≤ q := by omega
      have hmin : min (q : Int) 2 = R := by rw [← hR]; split <;> omega
      have HLN : Hid (r.length ≤ 5000) := by
        have h1 := dec_len hd
        have h2 := h.1
        rw [Hid]
        simp only [List.length_cons] at h1
        omega
      clear hok hbd hq hR hD h hd
      go_enter Tryd.func19, Tryd.ntmps19
      go_wp2_with fail
      refine HS.out.mono ?_
      rintro e w2 ⟨a2, m2, c2, rfl, hss, hb⟩
      obtain ⟨hm, ho⟩ := hss _ rfl
      subst hm
      obtain ⟨g, rfl, hg0, hg1⟩ := ho.pos (by simp)
      have q0 := ho.cell (j := 0) (by simp)
      simp only [List.getElem_cons_zero] at q0
      have HO := Lib.hid ho
      have HB := Lib.hid hb
      have hcap := ho.cap.1
      have hcap2 := ho.cap.2
      clear ho hb hss
      obtain ⟨M, hM⟩ : ∃ M, (s :: r).length = M := ⟨_, rfl⟩
      have HM : Hid (r.length = M - 1) := by rw [Hid, ← hM]; simp
      have hM1 : 1 ≤ M := by rw [← hM]; simp
      rw [hM] at HO hcap ⊢
      clear hM
      have hM0 : 0 < M := by omega
      have hM0i : (0 : Int) < M := by omega
      have hM1i : (1 : Int) ≤ M := by omega
      have kA := fun o => (World.cell?_alloc_lt w2 o ⟨g, 0, none⟩ hg1).trans q0
      have kB := fun o o' => (World.cell?_alloc_lt (w2.alloc o) o' ⟨g, 0, none⟩ (by simp; omega)).trans (kA o)
      have hTT : Hid (tT (R :: D :: r) = textO (R :: D :: r) ∧ tC (R :: D :: r) = 0) := by
        show _ ∧ _
        unfold tT tC
        rw [if_pos HOK.out.1, if_pos HOK.out.1]
        exact ⟨rfl, rfl⟩
      have hdr := HO.out.uk
      by_cases hc1 : c2 = 1
      · subst hc1
        obtain rfl : M = 1 := by omega
        have hdr1 : Uk .u32 w2 (some ⟨g, 0, none⟩) 0 0 r := by
          have h1 := uk_drop hdr (i := 1) hM1
          rw [if_pos rfl] at h1
          exact h1
        have HCC := Lib.hid (concat_two (R := R) (D := D) (N := 2) hdr1 (by omega) rfl)
        have HMl : Hid (2 ≤ 10000) := by show _ ≤ _; omega
        clear hdr hdr1
        go_wp2_with fail
        go_region_held3 (fun w' => w'.cell? ⟨g, 0, none⟩ = some (.int .u32 (s : Int))) (first | exact q0 | exact kA _ | exact kB _ _ | exact k0 | exact k1 | assumption)
          (first | (go_at_call 35; (with_reducible refine HCC.out.mono ?_); rintro e w5 ⟨a5, c5, rfl, hu5, hb5⟩; have U5 := Lib.hid hu5; have B5 := Lib.hid hb5; have k0 := (hb5.cell (p := ⟨g, 0, none⟩) hg1).trans q0; have HTX := Lib.hid (text_any ((hW.below HB.out).below hb5) hu5 HOK.out.2 HMl.out))
                 | (go_at_call 11; (with_reducible refine HTX.out.mono ?_); rintro e w6 ⟨rfl, hb6⟩; have B6 := Lib.hid hb6; have k1 := (hb6.cell (p := ⟨g, 0, none⟩) (Nat.lt_of_lt_of_le hg1 B5.out.size)).trans k0))
        clear q0 kA kB k0 k1
        go_wp2
        go_ret2
        exact ⟨by rw [hTT.out.1, hTT.out.2, HE.out.1, HE.out.2, HAO.out]; rfl, bthen (bthen HB.out B5.out) B6.out⟩
      · have hc3 : ¬ c2 = 1 := hc1
        have hdr1 : Uk .u32 w2 (some ⟨g, 1, none⟩) (M - 1) (c2 - 1) r := by
          have h1 := uk_drop hdr (i := 1) hM1
          rw [if_neg hc1, Nat.zero_add] at h1
          exact h1
        have HCC := Lib.hid (concat_two (R := R) (D := D) hdr1 (by have := HLN.out; have := HM.out; omega) rfl)
        have HMl : Hid (2 + (M - 1) ≤ 10000) := by have h1 := HLN.out; have h2 := HM.out; show _ ≤ _; omega
        clear hdr hdr1
        go_wp2_with fail
        go_region_held3 (fun w' => w'.cell? ⟨g, 0, none⟩ = some (.int .u32 (s : Int))) (first | exact q0 | exact kA _ | exact kB _ _ | exact k0 | exact k1 | assumption)
          (first | (go_at_call 35; (with_reducible refine HCC.out.mono ?_); rintro e w5 ⟨a5, c5, rfl, hu5, hb5⟩; have U5 := Lib.hid hu5; have B5 := Lib.hid hb5; have k0 := (hb5.cell (p := ⟨g, 0, none⟩) hg1).trans q0; have HTX := Lib.hid (text_any ((hW.below HB.out).below hb5) hu5 HOK.out.2 HMl.out))
                 | (go_at_call 11; (with_reducible refine HTX.out.mono ?_); rintro e w6 ⟨rfl, hb6⟩; have B6 := Lib.hid hb6; have k1 := (hb6.cell (p := ⟨g, 0, none⟩) (Nat.lt_of_lt_of_le hg1 B5.out.size)).trans k0))
        clear q0 kA kB k0 k1
        go_wp2
        go_ret2
        exact ⟨by rw [hTT.out.1, hTT.out.2, HE.out.1, HE.out.2, HAO.out]; rfl, bthen (bthen HB.out B5.out) B6.out⟩
end Go.Proofs.YtepicefbpadbhaaDoor
