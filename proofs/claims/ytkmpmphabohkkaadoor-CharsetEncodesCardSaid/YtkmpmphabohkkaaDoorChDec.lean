/-
  Contract of the reference's Decode.
-/
import Derived.Test.YtkmpmphabohkkaaDoorChSame
import Derived.Test.YtkmpmphabohkkaaDoorBytesEq
namespace Go.Proofs.YtkmpmphabohkkaaDoor
open Go.RowKit

theorem octets_all (x : Nat) (w : World) :
    Calls Tryd.prog 32 #[.int .i64 x] w fun e w' => ∃ a c, e = .returned (.slice a (u8O x).length c) ∧ Own w' w.heap.size 5 a (u8O x).length c (u8O x) ∧ Below w.heap.size w w' := by
  by_cases h : x ≤ 100000000
  · exact octets_any x h w
  · have hs : scal x = false := by
      rw [← Bool.not_eq_true, scal_true]
      omega
    rw [u8O_no hs]
    have h0 : ¬ (x : Int) < 0 := by omega
    have h1 : (1114111 : Int) < x := by omega
    clear h
    go_enter Tryd.func32, Tryd.ntmps32
    go_wp2_with fail
    go_ret
    exact ⟨none, 0, rfl, World.ownsRow_nil _ _ _ _, Below.refl _ _⟩
def valC (l : List UInt8) : Nat := l.foldl (fun x b => x * 256 + b.toNat) 0
theorem valC_snoc (l : List UInt8) (b : UInt8) : valC (l ++ [b]) = valC l * 256 + b.toNat := by
  unfold valC
  rw [List.foldl_append]
  rfl
theorem chunks_get {w : Nat} (hw : 0 < w) : ∀ (f : Nat) (c : List UInt8) (j : Nat), j < f → (chunks f w c)[j]? = if (j + 1) * w ≤ c.length then some (valC ((c.drop (j * w)).take w)) else none
  | 0, _, _, h => by omega
  | f + 1, c, j, h => by
    unfold chunks
    by_cases hc : c.length < w
    · rw [if_pos (.inl hc), if_neg (by
        have : w ≤ (j + 1) * w := Nat.le_mul_of_pos_left _ (Nat.succ_pos j)
        omega)]
      rfl
    · rw [if_neg (by omega)]
      cases j with
      | zero =>
        rw [if_pos (by omega), Nat.zero_mul, List.drop_zero]
        rfl
      | succ j =>
        rw [List.getElem?_cons_succ, chunks_get hw f (c.drop w) j (by omega), List.length_drop, List.drop_drop]
        have e1 : (j + 1 + 1) * w = (j + 1) * w + w := Nat.succ_mul _ _
        have e2 : (j + 1) * w = j * w + w := Nat.succ_mul _ _
        have e3 : w + j * w = (j + 1) * w := by omega
        rw [e3]
        by_cases h2 : (j + 1) * w ≤ c.length - w
        · rw [if_pos h2, if_pos (by omega)]
        · rw [if_neg h2, if_neg (by omega)]
theorem chunks_len : ∀ (f w : Nat) (c : List UInt8), (chunks f w c).length ≤ f
  | 0, _, _ => Nat.zero_le _
  | f + 1, w, c => by
    unfold chunks
    split
    · exact Nat.zero_le _
    · rw [List.length_cons]
      have := chunks_len f w (c.drop w)
      omega
theorem encU_le : ∀ L : List Nat, (encU L).length ≤ 4 * L.length
  | [] => Nat.le_refl _
  | x :: L => by
    have := encU_le L
    have := u8O_le x
    rw [encU_cons, List.length_append, List.length_cons]
    omega
theorem candU_len (w : Int) (c : List UInt8) : (candU w c).length ≤ 4 * c.length := by
  unfold candU
  split
  · omega
  · have := encU_le (chunks c.length w.toNat c)
    have := chunks_len c.length w.toNat c
    omega
/-- one chunk more -/
theorem chunk_more {c : List UInt8} {w j : Nat} (hw : 0 < w) (h : (j + 1) * w ≤ c.length) : encU ((chunks c.length w c).take (j + 1)) = encU ((chunks c.length w c).take j) ++ u8O (valC ((c.drop (j * w)).take w)) := by
  have hj : j < c.length := by
    have : j + 1 ≤ (j + 1) * w := Nat.le_mul_of_pos_right _ hw
    omega
  have hg := chunks_get hw c.length c j hj
  rw [if_pos h] at hg
  rw [List.take_add_one, hg, encU_append, Option.toList_some, encU_cons, encU_nil, List.append_nil]
theorem chunk_end {c : List UInt8} {w j : Nat} (hw : 0 < w) (h : ¬ (j + 1) * w ≤ c.length) : (chunks c.length w c).take j = chunks c.length w c := by
  apply List.take_of_length_le
  by_cases hj : j < c.length
  · have hg := chunks_get hw c.length c j hj
    rw [if_neg h, List.getElem?_eq_none_iff] at hg
    exact hg
  · have := chunks_len c.length w c
    omega
theorem valC_take {c : List UInt8} {d k : Nat} (h : d + k < c.length) : valC ((c.drop d).take (k + 1)) = valC ((c.drop d).take k) * 256 + (c[d + k]).toNat := by
  rw [List.take_succ_eq_append_getElem (by rw [List.length_drop]; omega), valC_snoc, List.getElem_drop]
theorem td_wid {k : Int} {l : List UInt8} (h : widK k < 0) : tdS k l = [] ∧ tdK k l = 0 ∧ tdC k l = 3 := by
  have e : decT k l = none := if_neg (by omega)
  unfold tdS tdK tdC
  rw [e, if_pos h]
  exact ⟨rfl, rfl, rfl⟩
theorem td_no {k : Int} {l : List UInt8} (h : ¬ widK k < 0) (h2 : ¬ (teC k (candU (widK k) l) = 0 ∧ teL k (candU (widK k) l) = l)) : tdS k l = [] ∧ tdK k l = 0 ∧ tdC k l = 6 := by
  have e : decT k l = none := if_neg (fun hh => h2 ⟨(te_yes hh.2.1).2, hh.2.2⟩)
  unfold tdS tdK tdC
  rw [e, if_neg h]
  exact ⟨rfl, rfl, rfl⟩
theorem td_yes {k : Int} {l : List UInt8} (h : ¬ widK k < 0) (h2 : teC k (candU (widK k) l) = 0 ∧ teL k (candU (widK k) l) = l) : tdS k l = candU (widK k) l ∧ tdK k l = k ∧ tdC k l = 0 := by
  have hv : vT k (candU (widK k) l) = true := by
    rcases hv : vT k (candU (widK k) l) with _ | _
    · rw [(te_no hv).2] at h2
      omega
    · rfl
  have e : decT k l = some (candU (widK k) l) := if_pos ⟨by omega, hv, h2.2⟩
  unfold tdS tdK tdC
  rw [e, if_neg h]
  exact ⟨rfl, rfl, rfl⟩
theorem teC_two (k : Int) (s : List UInt8) : teC k s = 0 ∨ teC k s = 8 := by
  rcases h : vT k s with _ | _
  · exact .inr (te_no h).2
  · exact .inl (te_yes h).2

set_option maxRecDepth 100000 in
set_option maxHeartbeats 8000000 in
theorem ref_tdec_any (k : Int) {w : World} {a : Option Addr} {n c : Nat} {l : List UInt8} (h : Bs w a n c l) (hz : n ≤ 20000) :
    Calls Tryd.prog 17 #[.int .i64 k, .slice a n c] w fun e w' => e = .returned (.tuple #[tV (tdK k l) (tdS k l), .int .i64 (tdC k l)]) ∧ Below w.heap.size w w' := by
  have HX := Lib.hid h
  have HL := Lib.hid h.len
  have HW := Lib.hid (fun w => width_any k w)
  have HOC := Lib.hid (fun (x : Nat) w => octets_all x w)
  have hcl := candU_len (widK k) l
  rw [HL.out] at hcl
  have HE := Lib.hid (fun w => ref_tenc_any k (candU (widK k) l) (by omega) w)
  unfold tV at HE ⊢
  obtain ⟨i0, hi, hz0, hz1, hz2⟩ := info_parts info_u8
  obtain ⟨H, hH⟩ : ∃ H, w.heap.size = H := ⟨_, rfl⟩
  have Z1 := Lib.hid (Blk.new w 23 #[.int .i64 0, .string ⟨#[]⟩])
  rw [hH] at Z1
  have Q1 := Lib.hid (bal (Below.refl w.heap.size w) (.cells #[.int .i64 0, .string ⟨#[]⟩] 23))
  have hn2 : (n : Int) ≤ 20000 := by omega
  by_cases hw : widK k < 0
  · rw [(td_wid hw).1, (td_wid hw).2.1, (td_wid hw).2.2]
    go_enter Tryd.func17, Tryd.ntmps17
    go_wp2_with fail
    generalize w.alloc (.cells #[.int .i64 0, .string ⟨#[]⟩] 23) = w1 at *
    with_reducible refine (HW.out _).mono ?_
    rintro e w' ⟨rfl, rfl⟩
    obtain ⟨z0, z1, zl, zf⟩ := Z1.out.cells2
    have ZF := Lib.hid (Z1.out.two (.int .i64 0) (.string ⟨#[]⟩))
    have QF := Lib.hid ((Q1.out.setCell (p := ⟨H, 0, none⟩) (Nat.le_of_eq hH) (.int .i64 0)).setCell (p := ⟨H, 1, none⟩) (Nat.le_of_eq hH) (.string ⟨#[]⟩))
    go_wp2_with fail
    generalize (World.setCell _ ⟨H, 1, none⟩ _) = w4 at *
    obtain ⟨y0, y1, _, _⟩ := ZF.out.cells2
    exact bodyPost_ret (v := .tuple #[.agg #[.int .i64 0, .string ⟨#[]⟩], .int .i64 3]) (by simp [results, Tryd.results17, go_sem, y0, y1]) rfl ⟨rfl, QF.out⟩
  · have HNO := Lib.hid (fun h2 => td_no (l := l) hw h2)
    have HYES := Lib.hid (fun h2 => td_yes (l := l) hw h2)
    have HTC := Lib.hid (teC_two k (candU (widK k) l))
    have hwis := wid_is (k := k) (by omega)
    clear hw h
    generalize widK k = W at *
    rcases hwis with rfl | rfl | rfl | rfl
    · obtain ⟨S, hS⟩ : ∃ S, candU 0 l = S := ⟨_, rfl⟩
      have HS := Lib.hid hS
      rw [hS] at HE HNO HYES HTC hcl
      clear hS
      go_enter Tryd.func17, Tryd.ntmps17
      go_wp2_with fail
      generalize w.alloc (.cells #[.int .i64 0, .string ⟨#[]⟩] 23) = w1 at *
      with_reducible refine (HW.out _).mono ?_
      rintro e w' ⟨rfl, rfl⟩
      have X1 := Lib.hid (HX.out.below Q1.out)
      have hw1 : H < w1.heap.size := Z1.out.lt
      obtain ⟨B, hB⟩ : ∃ B, w1.heap.size = B := ⟨_, rfl⟩
      have hHB : H < B := by omega
      have hwB : w.heap.size ≤ B := by omega
      obtain rfl : l = S := HS.out
      go_wp2_with (at_builtin; go_must (refine wpList_app _ rfl _ _ 25 rfl w1.heap.size 5 i0 Tryd.underlying25 hi hz0 hz1 hz2 none 0 0 [] rfl (World.ownsRow_nil _ _ _ _) a n c l rfl X1.out (by omega) (Nat.le_refl _) ?_))
      intro a4 c4 w4 ho4 hg4
      have B4 := Lib.hid (app_below (show Own w1 w1.heap.size 5 none 0 0 [] from World.ownsRow_nil _ _ _ _) hg4 (Nat.le_refl _) (Nat.le_refl _))
      have Q5 := Lib.hid (bthen Q1.out B4.out)
      have Z5 := Lib.hid (Z1.out.below B4.out Z1.out.lt)
      have O5 := Lib.hid ho4
      clear ho4 hg4 B4 hB
      generalize w4 = w5 at *
      go_wp2_with fail
      go_loopw [7, 8] (fun o i wr => o = .slice a4 n c4 ∧ i = .int .i64 0 ∧ wr = w5) (fun _ _ _ => 0)
      case atStart => exact ⟨rfl, rfl, rfl⟩
      case round =>
        obtain ⟨rfl, rfl, rfl⟩ := hrel
        generalize wr = w5 at *
        obtain ⟨G, hG⟩ : ∃ G, w5.heap.size = G := ⟨_, rfl⟩
        have hHG : H < G := by rw [← hG]; exact Z5.out.lt
        have hcv := O5.out.bs.conv (P := Tryd.prog) (dst := 9) Tryd.underlying25 Tryd.underlying5 Tryd.underlying9
        have Z6 := Lib.hid (Z5.out.alloc (.cells #[.int .i64 k, .string ⟨l.toArray⟩] 23))
        have Q6 := Lib.hid (bal Q5.out (.cells #[.int .i64 k, .string ⟨l.toArray⟩] 23))
        have T6 := Lib.hid (Blk.new w5 23 #[.int .i64 k, .string ⟨l.toArray⟩])
        rw [hG] at T6
        go_wp2_with fail
        clear hcv O5 hG
        generalize w5.alloc (.cells #[.int .i64 k, .string ⟨l.toArray⟩] 23) = w6 at *
        with_reducible refine (HE.out _).mono ?_
        rintro e w7 ⟨a7, c7, rfl, ho, q⟩
        have Q7 := Lib.hid (bthen Q6.out q)
        have Z7 := Lib.hid (Z6.out.below q Z6.out.lt)
        have T7 := Lib.hid (T6.out.below q T6.out.lt)
        have X7 := Lib.hid (HX.out.below Q7.out)
        have E7 := Lib.hid ho.bs
        clear q ho
        obtain ⟨z0, z1, zl, zf⟩ := Z7.out.cells2
        obtain ⟨y0, y1, yl, yf⟩ := T7.out.cells2
        by_cases hyes : teC k l = 0 ∧ teL k l = l
        · have HR := Lib.hid (HYES.out hyes)
          have HB := Lib.hid (bytes_any E7.out X7.out)
          rw [hyes.2, eqB_self, HL.out] at HB
          rw [hyes.1, hyes.2, HL.out]
          have ZF := Lib.hid (Z7.out.two (.int .i64 k) (.string ⟨l.toArray⟩))
          have QF := Lib.hid ((Q7.out.setCell (p := ⟨H, 0, none⟩) (Nat.le_of_eq hH) (.int .i64 k)).setCell (p := ⟨H, 1, none⟩) (Nat.le_of_eq hH) (.string ⟨l.toArray⟩))
          clear hyes
          go_wp2_with fail
          with_reducible refine HB.out.mono ?_
          rintro e w' ⟨rfl, rfl⟩
          go_wp2_with fail
          generalize (World.setCell _ ⟨H, 1, none⟩ _) = w9 at *
          obtain ⟨x0, x1, _, _⟩ := ZF.out.cells2
          exact bodyPost_ret (v := .tuple #[.agg #[.int .i64 k, .string ⟨l.toArray⟩], .int .i64 0]) (by simp [results, Tryd.results17, go_sem, x0, x1]) rfl ⟨by rw [HR.out.1, HR.out.2.1, HR.out.2.2]; rfl, QF.out⟩
        · have HR := Lib.hid (HNO.out hyes)
          have ZF := Lib.hid (Z7.out.two (.int .i64 0) (.string ⟨#[]⟩))
          have QF := Lib.hid ((Q7.out.setCell (p := ⟨H, 0, none⟩) (Nat.le_of_eq hH) (.int .i64 0)).setCell (p := ⟨H, 1, none⟩) (Nat.le_of_eq hH) (.string ⟨#[]⟩))
          rcases HTC.out with hc | hc
          · have hne : eqB (teL k l) l = false := by
              unfold eqB
              exact decide_eq_false (fun h => hyes ⟨hc, h⟩)
            have HB := Lib.hid (bytes_any E7.out X7.out)
            rw [hne] at HB
            rw [hc]
            clear hyes hc hne
            go_wp2_with fail
            with_reducible refine HB.out.mono ?_
            rintro e w' ⟨rfl, rfl⟩
            go_wp2_with fail
            generalize (World.setCell _ ⟨H, 1, none⟩ _) = w9 at *
            obtain ⟨x0, x1, _, _⟩ := ZF.out.cells2
            exact bodyPost_ret (v := .tuple #[.agg #[.int .i64 0, .string ⟨#[]⟩], .int .i64 6]) (by simp [results, Tryd.results17, go_sem, x0, x1]) rfl ⟨by rw [HR.out.1, HR.out.2.1, HR.out.2.2]; rfl, QF.out⟩
          · rw [hc]
            clear hyes hc
            go_wp2_with fail
            generalize (World.setCell _ ⟨H, 1, none⟩ _) = w9 at *
            obtain ⟨x0, x1, _, _⟩ := ZF.out.cells2
            exact bodyPost_ret (v := .tuple #[.agg #[.int .i64 0, .string ⟨#[]⟩], .int .i64 6]) (by simp [results, Tryd.results17, go_sem, x0, x1]) rfl ⟨by rw [HR.out.1, HR.out.2.1, HR.out.2.2]; rfl, QF.out⟩
    · obtain ⟨S, hS⟩ : ∃ S, candU 1 l = S := ⟨_, rfl⟩
      have HS := Lib.hid hS
      rw [hS] at HE HNO HYES HTC hcl
      clear hS
      go_enter Tryd.func17, Tryd.ntmps17
      go_wp2_with fail
      generalize w.alloc (.cells #[.int .i64 0, .string ⟨#[]⟩] 23) = w1 at *
      with_reducible refine (HW.out _).mono ?_
      rintro e w' ⟨rfl, rfl⟩
      have X1 := Lib.hid (HX.out.below Q1.out)
      have hw1 : H < w1.heap.size := Z1.out.lt
      obtain ⟨B, hB⟩ : ∃ B, w1.heap.size = B := ⟨_, rfl⟩
      have hHB : H < B := by omega
      have hwB : w.heap.size ≤ B := by omega
      have hS2 : S = encU (chunks l.length 1 l) := by rw [← HS.out]; rfl
      have HS2 := Lib.hid hS2
      clear hS2
      go_wp2_with fail
      go_loopw [7, 8] (fun o i wr => ∃ a7 c7, ∃ j : Nat, i = .int .i64 ((j * 1 : Nat) : Int) ∧ j * 1 ≤ n ∧ o = .slice a7 (encU ((chunks l.length 1 l).take j)).length c7 ∧ Own wr B 5 a7 (encU ((chunks l.length 1 l).take j)).length c7 (encU ((chunks l.length 1 l).take j)) ∧ Blk wr H 23 #[.int .i64 0, .string ⟨#[]⟩] ∧ Below w.heap.size w wr ∧ B ≤ wr.heap.size) (fun _ i _ => n - (intOf i).toNat)
      case atStart => exact ⟨none, 0, 0, by simp, by omega, rfl, World.ownsRow_nil _ _ _ _, Z1.out, Q1.out, by omega⟩
      case round =>
        obtain ⟨a7, c7, j, rfl, hjn, rfl, ho, hzb, hq, hsz⟩ := hrel
        have O4 := Lib.hid ho
        have Z4 := Lib.hid hzb
        have Q4 := Lib.hid hq
        clear ho hzb hq
        obtain ⟨I, hI⟩ : ∃ I, j * 1 = I := ⟨_, rfl⟩
        have HI := Lib.hid hI
        rw [hI] at hjn ⊢
        have hI0 : (0 : Int) ≤ I := by omega
        by_cases hlt : I + 1 ≤ n
        · have hlt2 : (I : Int) + 1 ≤ n := by omega
          have hcm := chunk_more (c := l) (w := 1) (j := j) (by omega) (by have := HL.out; omega)
          rw [hI] at hcm
          have HCM := Lib.hid hcm
          obtain ⟨N, hN⟩ : ∃ N, (encU ((chunks l.length 1 l).take j)).length = N := ⟨_, rfl⟩
          have hN9 : N ≤ 80000 := by
            have h1 := encU_le ((chunks l.length 1 l).take j)
            have h2 := chunks_len l.length 1 l
            rw [List.length_take] at h1
            have := HL.out
            omega
          have HN := Lib.hid hN
          rw [hN] at O4 ⊢
          clear hcm hN hI
          have X4 := Lib.hid (HX.out.below Q4.out)
          go_wp2_with fail
          go_loop [9, 10] (fun x q => ∃ y : Nat, y ≤ 1 ∧ q = .int .i64 y ∧ x = .int .i64 (valC ((l.drop I).take y) : Nat) ∧ valC ((l.drop I).take y) < 256 ^ y) (fun _ q => 1 - (intOf q).toNat)
          case atStart => exact ⟨0, by omega, rfl, by rw [List.take_zero]; rfl, by rw [List.take_zero]; decide⟩
          case round =>
            obtain ⟨y, hy, rfl, rfl, hvb⟩ := hrel
            have hy0 : (0 : Int) ≤ y := by omega
            have hv9 : valC ((l.drop I).take y) < 256 ^ 1 := Nat.lt_of_lt_of_le hvb (Nat.pow_le_pow_right (by omega) hy)
            by_cases hly : y < 1
            · have hly2 : (y : Int) < 1 := by omega
              have hIy : I + y < n := by omega
              obtain ⟨mb, mo, hml, rfl, hmb, hmc⟩ := X4.out.at_ hIy
              have hst := valC_take (c := l) (d := I) (k := y) hml
              obtain ⟨V, hV⟩ : ∃ V, valC ((l.drop I).take y) = V := ⟨_, rfl⟩
              obtain ⟨b, hb⟩ : ∃ b, l[I + y] = b := ⟨_, rfl⟩
              simp only [hb] at hst hmc
              rw [hV] at hst hvb hv9 ⊢
              have HST := Lib.hid hst
              have hbb := byte_bd b
              have hV8 : (V : Int) ≤ 4294967296 := by omega
              have hVN : V * 256 + b.toNat < 256 ^ (y + 1) := by rw [Nat.pow_succ]; have := b.toNat_lt; generalize 256 ^ y = p at *; omega
              have hIy2 : (I : Int) + y < n := by omega
              have HVN := Lib.hid hVN
              clear hst hV hb hml hv9 hvb hVN
              go_wp2_with fail
              go_round
              case rel => exact ⟨y + 1, by omega, by go_num, by rw [HST.out]; go_num, by rw [HST.out]; exact HVN.out⟩
              case measure => simp [intOf]; omega
            · obtain rfl : y = 1 := by omega
              have HOX := Lib.hid (fun w => HOC.out (valC ((l.drop I).take 1)) w)
              have hul := u8O_le (valC ((l.drop I).take 1))
              have HLN : Hid ((encU ((chunks l.length 1 l).take (j + 1))).length = N + (u8O (valC ((l.drop I).take 1))).length) := by rw [Hid, HCM.out, List.length_append, HN.out]
              generalize valC ((l.drop I).take 1) = V at *
              clear hvb hv9 hly
              go_wp2_with fail
              with_reducible refine (HOX.out _).mono ?_
              rintro e w2 ⟨a8, c8, rfl, ho8, q⟩
              have OX := Lib.hid (O4.out.below q)
              have HSZ : B ≤ w2.heap.size := by have := q.size; omega
              have ZX := Lib.hid (Z4.out.below q Z4.out.lt)
              have QX := Lib.hid (bthen Q4.out q)
              have SX := Lib.hid ho8.bs
              clear q ho8
              go_wp2_with (at_builtin; go_must (refine wpList_app _ rfl _ _ 25 rfl B 5 i0 Tryd.underlying25 hi hz0 hz1 hz2 a7 N c7 _ rfl OX.out a8 (u8O V).length c8 (u8O V) rfl SX.out (by omega) HSZ ?_))
              intro a9 c9 w9 ho9 hg9
              have B9 := Lib.hid (app_below OX.out hg9 (Nat.le_refl _) HSZ)
              have Q9 := Lib.hid (QX.out.trans (B9.out.mono hwB))
              have Z9 := Lib.hid (ZX.out.below B9.out hHB)
              have O9 := Lib.hid ho9
              have hs9 : B ≤ w9.heap.size := Nat.le_trans HSZ B9.out.size
              clear ho9 hg9 B9
              go_wp2
              go_roundw
              case rel => exact ⟨a9, c9, j + 1, by rw [Nat.succ_mul, HI.out]; go_num, by rw [Nat.succ_mul, HI.out]; omega, by rw [HLN.out], by rw [HLN.out, HCM.out]; exact O9.out, Z9.out, Q9.out, hs9⟩
              case measure => simp [intOf]; omega
        · have hlt2 : ¬ (I : Int) + 1 ≤ n := by omega
          have hce := chunk_end (c := l) (w := 1) (j := j) (by omega) (by have := HL.out; omega)
          rw [hce, ← HS2.out] at O4 ⊢
          have O5 := Lib.hid O4.out
          have Z5 := Lib.hid Z4.out
          have Q5 := Lib.hid Q4.out
          clear hce O4 Z4 Q4 hI HI hlt
          generalize wr = w5 at *
          obtain ⟨G, hG⟩ : ∃ G, w5.heap.size = G := ⟨_, rfl⟩
          have hHG : H < G := by rw [← hG]; exact Z5.out.lt
          have hcv := O5.out.bs.conv (P := Tryd.prog) (dst := 9) Tryd.underlying25 Tryd.underlying5 Tryd.underlying9
          have Z6 := Lib.hid (Z5.out.alloc (.cells #[.int .i64 k, .string ⟨S.toArray⟩] 23))
          have Q6 := Lib.hid (bal Q5.out (.cells #[.int .i64 k, .string ⟨S.toArray⟩] 23))
          have T6 := Lib.hid (Blk.new w5 23 #[.int .i64 k, .string ⟨S.toArray⟩])
          rw [hG] at T6
          go_wp2_with fail
          clear hcv O5 hG
          generalize w5.alloc (.cells #[.int .i64 k, .string ⟨S.toArray⟩] 23) = w6 at *
          with_reducible refine (HE.out _).mono ?_
          rintro e w7 ⟨a7, c7, rfl, ho, q⟩
          have Q7 := Lib.hid (bthen Q6.out q)
          have Z7 := Lib.hid (Z6.out.below q Z6.out.lt)
          have T7 := Lib.hid (T6.out.below q T6.out.lt)
          have X7 := Lib.hid (HX.out.below Q7.out)
          have E7 := Lib.hid ho.bs
          clear q ho
          obtain ⟨z0, z1, zl, zf⟩ := Z7.out.cells2
          obtain ⟨y0, y1, yl, yf⟩ := T7.out.cells2
          by_cases hyes : teC k S = 0 ∧ teL k S = l
          · have HR := Lib.hid (HYES.out hyes)
            have HB := Lib.hid (bytes_any E7.out X7.out)
            rw [hyes.2, eqB_self, HL.out] at HB
            rw [hyes.1, hyes.2, HL.out]
            have ZF := Lib.hid (Z7.out.two (.int .i64 k) (.string ⟨S.toArray⟩))
            have QF := Lib.hid ((Q7.out.setCell (p := ⟨H, 0, none⟩) (Nat.le_of_eq hH) (.int .i64 k)).setCell (p := ⟨H, 1, none⟩) (Nat.le_of_eq hH) (.string ⟨S.toArray⟩))
            clear hyes
            go_wp2_with fail
            with_reducible refine HB.out.mono ?_
            rintro e w' ⟨rfl, rfl⟩
            go_wp2_with fail
            generalize (World.setCell _ ⟨H, 1, none⟩ _) = w9 at *
            obtain ⟨x0, x1, _, _⟩ := ZF.out.cells2
            exact bodyPost_ret (v := .tuple #[.agg #[.int .i64 k, .string ⟨S.toArray⟩], .int .i64 0]) (by simp [results, Tryd.results17, go_sem, x0, x1]) rfl ⟨by rw [HR.out.1, HR.out.2.1, HR.out.2.2]; rfl, QF.out⟩
          · have HR := Lib.hid (HNO.out hyes)
            have ZF := Lib.hid (Z7.out.two (.int .i64 0) (.string ⟨#[]⟩))
            have QF := Lib.hid ((Q7.out.setCell (p := ⟨H, 0, none⟩) (Nat.le_of_eq hH) (.int .i64 0)).setCell (p := ⟨H, 1, none⟩) (Nat.le_of_eq hH) (.string ⟨#[]⟩))
            rcases HTC.out with hc | hc
            · have hne : eqB (teL k S) l = false := by
                unfold eqB
                exact decide_eq_false (fun h => hyes ⟨hc, h⟩)
              have HB := Lib.hid (bytes_any E7.out X7.out)
              rw [hne] at HB
              rw [hc]
              clear hyes hc hne
              go_wp2_with fail
              with_reducible refine HB.out.mono ?_
              rintro e w' ⟨rfl, rfl⟩
              go_wp2_with fail
              generalize (World.setCell _ ⟨H, 1, none⟩ _) = w9 at *
              obtain ⟨x0, x1, _, _⟩ := ZF.out.cells2
              exact bodyPost_ret (v := .tuple #[.agg #[.int .i64 0, .string ⟨#[]⟩], .int .i64 6]) (by simp [results, Tryd.results17, go_sem, x0, x1]) rfl ⟨by rw [HR.out.1, HR.out.2.1, HR.out.2.2]; rfl, QF.out⟩
            · rw [hc]
              clear hyes hc
              go_wp2_with fail
              generalize (World.setCell _ ⟨H, 1, none⟩ _) = w9 at *
              obtain ⟨x0, x1, _, _⟩ := ZF.out.cells2
              exact bodyPost_ret (v := .tuple #[.agg #[.int .i64 0, .string ⟨#[]⟩], .int .i64 6]) (by simp [results, Tryd.results17, go_sem, x0, x1]) rfl ⟨by rw [HR.out.1, HR.out.2.1, HR.out.2.2]; rfl, QF.out⟩
    · obtain ⟨S, hS⟩ : ∃ S, candU 2 l = S := ⟨_, rfl⟩
      have HS := Lib.hid hS
      rw [hS] at HE HNO HYES HTC hcl
      clear hS
      go_enter Tryd.func17, Tryd.ntmps17
      go_wp2_with fail
      generalize w.alloc (.cells #[.int .i64 0, .string ⟨#[]⟩] 23) = w1 at *
      with_reducible refine (HW.out _).mono ?_
      rintro e w' ⟨rfl, rfl⟩
      have X1 := Lib.hid (HX.out.below Q1.out)
      have hw1 : H < w1.heap.size := Z1.out.lt
      obtain ⟨B, hB⟩ : ∃ B, w1.heap.size = B := ⟨_, rfl⟩
      have hHB : H < B := by omega
      have hwB : w.heap.size ≤ B := by omega
      have hS2 : S = encU (chunks l.length 2 l) := by rw [← HS.out]; rfl
      have HS2 := Lib.hid hS2
      clear hS2
      go_wp2_with fail
      go_loopw [7, 8] (fun o i wr => ∃ a7 c7, ∃ j : Nat, i = .int .i64 ((j * 2 : Nat) : Int) ∧ j * 2 ≤ n ∧ o = .slice a7 (encU ((chunks l.length 2 l).take j)).length c7 ∧ Own wr B 5 a7 (encU ((chunks l.length 2 l).take j)).length c7 (encU ((chunks l.length 2 l).take j)) ∧ Blk wr H 23 #[.int .i64 0, .string ⟨#[]⟩] ∧ Below w.heap.size w wr ∧ B ≤ wr.heap.size) (fun _ i _ => n - (intOf i).toNat)
      case atStart => exact ⟨none, 0, 0, by simp, by omega, rfl, World.ownsRow_nil _ _ _ _, Z1.out, Q1.out, by omega⟩
      case round =>
        obtain ⟨a7, c7, j, rfl, hjn, rfl, ho, hzb, hq, hsz⟩ := hrel
        have O4 := Lib.hid ho
        have Z4 := Lib.hid hzb
        have Q4 := Lib.hid hq
        clear ho hzb hq
        obtain ⟨I, hI⟩ : ∃ I, j * 2 = I := ⟨_, rfl⟩
        have HI := Lib.hid hI
        rw [hI] at hjn ⊢
        have hI0 : (0 : Int) ≤ I := by omega
        by_cases hlt : I + 2 ≤ n
        · have hlt2 : (I : Int) + 2 ≤ n := by omega
          have hcm := chunk_more (c := l) (w := 2) (j := j) (by omega) (by have := HL.out; omega)
          rw [hI] at hcm
          have HCM := Lib.hid hcm
          obtain ⟨N, hN⟩ : ∃ N, (encU ((chunks l.length 2 l).take j)).length = N := ⟨_, rfl⟩
          have hN9 : N ≤ 80000 := by
            have h1 := encU_le ((chunks l.length 2 l).take j)
            have h2 := chunks_len l.length 2 l
            rw [List.length_take] at h1
            have := HL.out
            omega
          have HN := Lib.hid hN
          rw [hN] at O4 ⊢
          clear hcm hN hI
          have X4 := Lib.hid (HX.out.below Q4.out)
          go_wp2_with fail
          go_loop [9, 10] (fun x q => ∃ y : Nat, y ≤ 2 ∧ q = .int .i64 y ∧ x = .int .i64 (valC ((l.drop I).take y) : Nat) ∧ valC ((l.drop I).take y) < 256 ^ y) (fun _ q => 2 - (intOf q).toNat)
          case atStart => exact ⟨0, by omega, rfl, by rw [List.take_zero]; rfl, by rw [List.take_zero]; decide⟩
          case round =>
            obtain ⟨y, hy, rfl, rfl, hvb⟩ := hrel
            have hy0 : (0 : Int) ≤ y := by omega
            have hv9 : valC ((l.drop I).take y) < 256 ^ 2 := Nat.lt_of_lt_of_le hvb (Nat.pow_le_pow_right (by omega) hy)
            by_cases hly : y < 2
            · have hly2 : (y : Int) < 2 := by omega
              have hIy : I + y < n := by omega
              obtain ⟨mb, mo, hml, rfl, hmb, hmc⟩ := X4.out.at_ hIy
              have hst := valC_take (c := l) (d := I) (k := y) hml
              obtain ⟨V, hV⟩ : ∃ V, valC ((l.drop I).take y) = V := ⟨_, rfl⟩
              obtain ⟨b, hb⟩ : ∃ b, l[I + y] = b := ⟨_, rfl⟩
              simp only [hb] at hst hmc
              rw [hV] at hst hvb hv9 ⊢
              have HST := Lib.hid hst
              have hbb := byte_bd b
              have hV8 : (V : Int) ≤ 4294967296 := by omega
              have hVN : V * 256 + b.toNat < 256 ^ (y + 1) := by rw [Nat.pow_succ]; have := b.toNat_lt; generalize 256 ^ y = p at *; omega
              have hIy2 : (I : Int) + y < n := by omega
              have HVN := Lib.hid hVN
              clear hst hV hb hml hv9 hvb hVN
              go_wp2_with fail
              go_round
              case rel => exact ⟨y + 1, by omega, by go_num, by rw [HST.out]; go_num, by rw [HST.out]; exact HVN.out⟩
              case measure => simp [intOf]; omega
            · obtain rfl : y = 2 := by omega
              have HOX := Lib.hid (fun w => HOC.out (valC ((l.drop I).take 2)) w)
              have hul := u8O_le (valC ((l.drop I).take 2))
              have HLN : Hid ((encU ((chunks l.length 2 l).take (j + 1))).length = N + (u8O (valC ((l.drop I).take 2))).length) := by rw [Hid, HCM.out, List.length_append, HN.out]
              generalize valC ((l.drop I).take 2) = V at *
              clear hvb hv9 hly
              go_wp2_with fail
              with_reducible refine (HOX.out _).mono ?_
              rintro e w2 ⟨a8, c8, rfl, ho8, q⟩
              have OX := Lib.hid (O4.out.below q)
              have HSZ : B ≤ w2.heap.size := by have := q.size; omega
              have ZX := Lib.hid (Z4.out.below q Z4.out.lt)
              have QX := Lib.hid (bthen Q4.out q)
              have SX := Lib.hid ho8.bs
              clear q ho8
              go_wp2_with (at_builtin; go_must (refine wpList_app _ rfl _ _ 25 rfl B 5 i0 Tryd.underlying25 hi hz0 hz1 hz2 a7 N c7 _ rfl OX.out a8 (u8O V).length c8 (u8O V) rfl SX.out (by omega) HSZ ?_))
              intro a9 c9 w9 ho9 hg9
              have B9 := Lib.hid (app_below OX.out hg9 (Nat.le_refl _) HSZ)
              have Q9 := Lib.hid (QX.out.trans (B9.out.mono hwB))
              have Z9 := Lib.hid (ZX.out.below B9.out hHB)
              have O9 := Lib.hid ho9
              have hs9 : B ≤ w9.heap.size := Nat.le_trans HSZ B9.out.size
              clear ho9 hg9 B9
              go_wp2
              go_roundw
              case rel => exact ⟨a9, c9, j + 1, by rw [Nat.succ_mul, HI.out]; go_num, by rw [Nat.succ_mul, HI.out]; omega, by rw [HLN.out], by rw [HLN.out, HCM.out]; exact O9.out, Z9.out, Q9.out, hs9⟩
              case measure => simp [intOf]; omega
        · have hlt2 : ¬ (I : Int) + 2 ≤ n := by omega
          have hce := chunk_end (c := l) (w := 2) (j := j) (by omega) (by have := HL.out; omega)
          rw [hce, ← HS2.out] at O4 ⊢
          have O5 := Lib.hid O4.out
          have Z5 := Lib.hid Z4.out
          have Q5 := Lib.hid Q4.out
          clear hce O4 Z4 Q4 hI HI hlt
          generalize wr = w5 at *
          obtain ⟨G, hG⟩ : ∃ G, w5.heap.size = G := ⟨_, rfl⟩
          have hHG : H < G := by rw [← hG]; exact Z5.out.lt
          have hcv := O5.out.bs.conv (P := Tryd.prog) (dst := 9) Tryd.underlying25 Tryd.underlying5 Tryd.underlying9
          have Z6 := Lib.hid (Z5.out.alloc (.cells #[.int .i64 k, .string ⟨S.toArray⟩] 23))
          have Q6 := Lib.hid (bal Q5.out (.cells #[.int .i64 k, .string ⟨S.toArray⟩] 23))
          have T6 := Lib.hid (Blk.new w5 23 #[.int .i64 k, .string ⟨S.toArray⟩])
          rw [hG] at T6
          go_wp2_with fail
          clear hcv O5 hG
          generalize w5.alloc (.cells #[.int .i64 k, .string ⟨S.toArray⟩] 23) = w6 at *
          with_reducible refine (HE.out _).mono ?_
          rintro e w7 ⟨a7, c7, rfl, ho, q⟩
          have Q7 := Lib.hid (bthen Q6.out q)
          have Z7 := Lib.hid (Z6.out.below q Z6.out.lt)
          have T7 := Lib.hid (T6.out.below q T6.out.lt)
          have X7 := Lib.hid (HX.out.below Q7.out)
          have E7 := Lib.hid ho.bs
          clear q ho
          obtain ⟨z0, z1, zl, zf⟩ := Z7.out.cells2
          obtain ⟨y0, y1, yl, yf⟩ := T7.out.cells2
          by_cases hyes : teC k S = 0 ∧ teL k S = l
          · have HR := Lib.hid (HYES.out hyes)
            have HB := Lib.hid (bytes_any E7.out X7.out)
            rw [hyes.2, eqB_self, HL.out] at HB
            rw [hyes.1, hyes.2, HL.out]
            have ZF := Lib.hid (Z7.out.two (.int .i64 k) (.string ⟨S.toArray⟩))
            have QF := Lib.hid ((Q7.out.setCell (p := ⟨H, 0, none⟩) (Nat.le_of_eq hH) (.int .i64 k)).setCell (p := ⟨H, 1, none⟩) (Nat.le_of_eq hH) (.string ⟨S.toArray⟩))
            clear hyes
            go_wp2_with fail
            with_reducible refine HB.out.mono ?_
            rintro e w' ⟨rfl, rfl⟩
            go_wp2_with fail
            generalize (World.setCell _ ⟨H, 1, none⟩ _) = w9 at *
            obtain ⟨x0, x1, _, _⟩ := ZF.out.cells2
            exact bodyPost_ret (v := .tuple #[.agg #[.int .i64 k, .string ⟨S.toArray⟩], .int .i64 0]) (by simp [results, Tryd.results17, go_sem, x0, x1]) rfl ⟨by rw [HR.out.1, HR.out.2.1, HR.out.2.2]; rfl, QF.out⟩
          · have HR := Lib.hid (HNO.out hyes)
            have ZF := Lib.hid (Z7.out.two (.int .i64 0) (.string ⟨#[]⟩))
            have QF := Lib.hid ((Q7.out.setCell (p := ⟨H, 0, none⟩) (Nat.le_of_eq hH) (.int .i64 0)).setCell (p := ⟨H, 1, none⟩) (Nat.le_of_eq hH) (.string ⟨#[]⟩))
            rcases HTC.out with hc | hc
            · have hne : eqB (teL k S) l = false := by
                unfold eqB
                exact decide_eq_false (fun h => hyes ⟨hc, h⟩)
              have HB := Lib.hid (bytes_any E7.out X7.out)
              rw [hne] at HB
              rw [hc]
              clear hyes hc hne
              go_wp2_with fail
              with_reducible refine HB.out.mono ?_
              rintro e w' ⟨rfl, rfl⟩
              go_wp2_with fail
              generalize (World.setCell _ ⟨H, 1, none⟩ _) = w9 at *
              obtain ⟨x0, x1, _, _⟩ := ZF.out.cells2
              exact bodyPost_ret (v := .tuple #[.agg #[.int .i64 0, .string ⟨#[]⟩], .int .i64 6]) (by simp [results, Tryd.results17, go_sem, x0, x1]) rfl ⟨by rw [HR.out.1, HR.out.2.1, HR.out.2.2]; rfl, QF.out⟩
            · rw [hc]
              clear hyes hc
              go_wp2_with fail
              generalize (World.setCell _ ⟨H, 1, none⟩ _) = w9 at *
              obtain ⟨x0, x1, _, _⟩ := ZF.out.cells2
              exact bodyPost_ret (v := .tuple #[.agg #[.int .i64 0, .string ⟨#[]⟩], .int .i64 6]) (by simp [results, Tryd.results17, go_sem, x0, x1]) rfl ⟨by rw [HR.out.1, HR.out.2.1, HR.out.2.2]; rfl, QF.out⟩
    · obtain ⟨S, hS⟩ : ∃ S, candU 4 l = S := ⟨_, rfl⟩
      have HS := Lib.hid hS
      rw [hS] at HE HNO HYES HTC hcl
      clear hS
      go_enter Tryd.func17, Tryd.ntmps17
      go_wp2_with fail
      generalize w.alloc (.cells #[.int .i64 0, .string ⟨#[]⟩] 23) = w1 at *
      with_reducible refine (HW.out _).mono ?_
      rintro e w' ⟨rfl, rfl⟩
      have X1 := Lib.hid (HX.out.below Q1.out)
      have hw1 : H < w1.heap.size := Z1.out.lt
      obtain ⟨B, hB⟩ : ∃ B, w1.heap.size = B := ⟨_, rfl⟩
      have hHB : H < B := by omega
      have hwB : w.heap.size ≤ B := by omega
      have hS2 : S = encU (chunks l.length 4 l) := by rw [← HS.out]; rfl
      have HS2 := Lib.hid hS2
      clear hS2
      go_wp2_with fail
      go_loopw [7, 8] (fun o i wr => ∃ a7 c7, ∃ j : Nat, i = .int .i64 ((j * 4 : Nat) : Int) ∧ j * 4 ≤ n ∧ o = .slice a7 (encU ((chunks l.length 4 l).take j)).length c7 ∧ Own wr B 5 a7 (encU ((chunks l.length 4 l).take j)).length c7 (encU ((chunks l.length 4 l).take j)) ∧ Blk wr H 23 #[.int .i64 0, .string ⟨#[]⟩] ∧ Below w.heap.size w wr ∧ B ≤ wr.heap.size) (fun _ i _ => n - (intOf i).toNat)
      case atStart => exact ⟨none, 0, 0, by simp, by omega, rfl, World.ownsRow_nil _ _ _ _, Z1.out, Q1.out, by omega⟩
      case round =>
        obtain ⟨a7, c7, j, rfl, hjn, rfl, ho, hzb, hq, hsz⟩ := hrel
        have O4 := Lib.hid ho
        have Z4 := Lib.hid hzb
        have Q4 := Lib.hid hq
        clear ho hzb hq
        obtain ⟨I, hI⟩ : ∃ I, j * 4 = I := ⟨_, rfl⟩
        have HI := Lib.hid hI
        rw [hI] at hjn ⊢
        have hI0 : (0 : Int) ≤ I := by omega
        by_cases hlt : I + 4 ≤ n
        · have hlt2 : (I : Int) + 4 ≤ n := by omega
          have hcm := chunk_more (c := l) (w := 4) (j := j) (by omega) (by have := HL.out; omega)
          rw [hI] at hcm
          have HCM := Lib.hid hcm
          obtain ⟨N, hN⟩ : ∃ N, (encU ((chunks l.length 4 l).take j)).length = N := ⟨_, rfl⟩
          have hN9 : N ≤ 80000 := by
            have h1 := encU_le ((chunks l.length 4 l).take j)
            have h2 := chunks_len l.length 4 l
            rw [List.length_take] at h1
            have := HL.out
            omega
          have HN := Lib.hid hN
          rw [hN] at O4 ⊢
          clear hcm hN hI
          have X4 := Lib.hid (HX.out.below Q4.out)
          go_wp2_with fail
          go_loop [9, 10] (fun x q => ∃ y : Nat, y ≤ 4 ∧ q = .int .i64 y ∧ x = .int .i64 (valC ((l.drop I).take y) : Nat) ∧ valC ((l.drop I).take y) < 256 ^ y) (fun _ q => 4 - (intOf q).toNat)
          case atStart => exact ⟨0, by omega, rfl, by rw [List.take_zero]; rfl, by rw [List.take_zero]; decide⟩
          case round =>
            obtain ⟨y, hy, rfl, rfl, hvb⟩ := hrel
            have hy0 : (0 : Int) ≤ y := by omega
            have hv9 : valC ((l.drop I).take y) < 256 ^ 4 := Nat.lt_of_lt_of_le hvb (Nat.pow_le_pow_right (by omega) hy)
            by_cases hly : y < 4
            · have hly2 : (y : Int) < 4 := by omega
              have hIy : I + y < n := by omega
              obtain ⟨mb, mo, hml, rfl, hmb, hmc⟩ := X4.out.at_ hIy
              have hst := valC_take (c := l) (d := I) (k := y) hml
              obtain ⟨V, hV⟩ : ∃ V, valC ((l.drop I).take y) = V := ⟨_, rfl⟩
              obtain ⟨b, hb⟩ : ∃ b, l[I + y] = b := ⟨_, rfl⟩
              simp only [hb] at hst hmc
              rw [hV] at hst hvb hv9 ⊢
              have HST := Lib.hid hst
              have hbb := byte_bd b
              have hV8 : (V : Int) ≤ 4294967296 := by omega
              have hVN : V * 256 + b.toNat < 256 ^ (y + 1) := by rw [Nat.pow_succ]; have := b.toNat_lt; generalize 256 ^ y = p at *; omega
              have hIy2 : (I : Int) + y < n := by omega
              have HVN := Lib.hid hVN
              clear hst hV hb hml hv9 hvb hVN
              go_wp2_with fail
              go_round
              case rel => exact ⟨y + 1, by omega, by go_num, by rw [HST.out]; go_num, by rw [HST.out]; exact HVN.out⟩
              case measure => simp [intOf]; omega
            · obtain rfl : y = 4 := by omega
              have HOX := Lib.hid (fun w => HOC.out (valC ((l.drop I).take 4)) w)
              have hul := u8O_le (valC ((l.drop I).take 4))
              have HLN : Hid ((encU ((chunks l.length 4 l).take (j + 1))).length = N + (u8O (valC ((l.drop I).take 4))).length) := by rw [Hid, HCM.out, List.length_append, HN.out]
              generalize valC ((l.drop I).take 4) = V at *
              clear hvb hv9 hly
              go_wp2_with fail
              with_reducible refine (HOX.out _).mono ?_
              rintro e w2 ⟨a8, c8, rfl, ho8, q⟩
              have OX := Lib.hid (O4.out.below q)
              have HSZ : B ≤ w2.heap.size := by have := q.size; omega
              have ZX := Lib.hid (Z4.out.below q Z4.out.lt)
              have QX := Lib.hid (bthen Q4.out q)
              have SX := Lib.hid ho8.bs
              clear q ho8
              go_wp2_with (at_builtin; go_must (refine wpList_app _ rfl _ _ 25 rfl B 5 i0 Tryd.underlying25 hi hz0 hz1 hz2 a7 N c7 _ rfl OX.out a8 (u8O V).length c8 (u8O V) rfl SX.out (by omega) HSZ ?_))
              intro a9 c9 w9 ho9 hg9
              have B9 := Lib.hid (app_below OX.out hg9 (Nat.le_refl _) HSZ)
              have Q9 := Lib.hid (QX.out.trans (B9.out.mono hwB))
              have Z9 := Lib.hid (ZX.out.below B9.out hHB)
              have O9 := Lib.hid ho9
              have hs9 : B ≤ w9.heap.size := Nat.le_trans HSZ B9.out.size
              clear ho9 hg9 B9
              go_wp2
              go_roundw
              case rel => exact ⟨a9, c9, j + 1, by rw [Nat.succ_mul, HI.out]; go_num, by rw [Nat.succ_mul, HI.out]; omega, by rw [HLN.out], by rw [HLN.out, HCM.out]; exact O9.out, Z9.out, Q9.out, hs9⟩
              case measure => simp [intOf]; omega
        · have hlt2 : ¬ (I : Int) + 4 ≤ n := by omega
          have hce := chunk_end (c := l) (w := 4) (j := j) (by omega) (by have := HL.out; omega)
          rw [hce, ← HS2.out] at O4 ⊢
          have O5 := Lib.hid O4.out
          have Z5 := Lib.hid Z4.out
          have Q5 := Lib.hid Q4.out
          clear hce O4 Z4 Q4 hI HI hlt
          generalize wr = w5 at *
          obtain ⟨G, hG⟩ : ∃ G, w5.heap.size = G := ⟨_, rfl⟩
          have hHG : H < G := by rw [← hG]; exact Z5.out.lt
          have hcv := O5.out.bs.conv (P := Tryd.prog) (dst := 9) Tryd.underlying25 Tryd.underlying5 Tryd.underlying9
          have Z6 := Lib.hid (Z5.out.alloc (.cells #[.int .i64 k, .string ⟨S.toArray⟩] 23))
          have Q6 := Lib.hid (bal Q5.out (.cells #[.int .i64 k, .string ⟨S.toArray⟩] 23))
          have T6 := Lib.hid (Blk.new w5 23 #[.int .i64 k, .string ⟨S.toArray⟩])
          rw [hG] at T6
          go_wp2_with fail
          clear hcv O5 hG
          generalize w5.alloc (.cells #[.int .i64 k, .string ⟨S.toArray⟩] 23) = w6 at *
          with_reducible refine (HE.out _).mono ?_
          rintro e w7 ⟨a7, c7, rfl, ho, q⟩
          have Q7 := Lib.hid (bthen Q6.out q)
          have Z7 := Lib.hid (Z6.out.below q Z6.out.lt)
          have T7 := Lib.hid (T6.out.below q T6.out.lt)
          have X7 := Lib.hid (HX.out.below Q7.out)
          have E7 := Lib.hid ho.bs
          clear q ho
          obtain ⟨z0, z1, zl, zf⟩ := Z7.out.cells2
          obtain ⟨y0, y1, yl, yf⟩ := T7.out.cells2
          by_cases hyes : teC k S = 0 ∧ teL k S = l
          · have HR := Lib.hid (HYES.out hyes)
            have HB := Lib.hid (bytes_any E7.out X7.out)
            rw [hyes.2, eqB_self, HL.out] at HB
            rw [hyes.1, hyes.2, HL.out]
            have ZF := Lib.hid (Z7.out.two (.int .i64 k) (.string ⟨S.toArray⟩))
            have QF := Lib.hid ((Q7.out.setCell (p := ⟨H, 0, none⟩) (Nat.le_of_eq hH) (.int .i64 k)).setCell (p := ⟨H, 1, none⟩) (Nat.le_of_eq hH) (.string ⟨S.toArray⟩))
            clear hyes
            go_wp2_with fail
            with_reducible refine HB.out.mono ?_
            rintro e w' ⟨rfl, rfl⟩
            go_wp2_with fail
            generalize (World.setCell _ ⟨H, 1, none⟩ _) = w9 at *
            obtain ⟨x0, x1, _, _⟩ := ZF.out.cells2
            exact bodyPost_ret (v := .tuple #[.agg #[.int .i64 k, .string ⟨S.toArray⟩], .int .i64 0]) (by simp [results, Tryd.results17, go_sem, x0, x1]) rfl ⟨by rw [HR.out.1, HR.out.2.1, HR.out.2.2]; rfl, QF.out⟩
          · have HR := Lib.hid (HNO.out hyes)
            have ZF := Lib.hid (Z7.out.two (.int .i64 0) (.string ⟨#[]⟩))
            have QF := Lib.hid ((Q7.out.setCell (p := ⟨H, 0, none⟩) (Nat.le_of_eq hH) (.int .i64 0)).setCell (p := ⟨H, 1, none⟩) (Nat.le_of_eq hH) (.string ⟨#[]⟩))
            rcases HTC.out with hc | hc
            · have hne : eqB (teL k S) l = false := by
                unfold eqB
                exact decide_eq_false (fun h => hyes ⟨hc, h⟩)
              have HB := Lib.hid (bytes_any E7.out X7.out)
              rw [hne] at HB
              rw [hc]
              clear hyes hc hne
              go_wp2_with fail
              with_reducible refine HB.out.mono ?_
              rintro e w' ⟨rfl, rfl⟩
              go_wp2_with fail
              generalize (World.setCell _ ⟨H, 1, none⟩ _) = w9 at *
              obtain ⟨x0, x1, _, _⟩ := ZF.out.cells2
              exact bodyPost_ret (v := .tuple #[.agg #[.int .i64 0, .string ⟨#[]⟩], .int .i64 6]) (by simp [results, Tryd.results17, go_sem, x0, x1]) rfl ⟨by rw [HR.out.1, HR.out.2.1, HR.out.2.2]; rfl, QF.out⟩
            · rw [hc]
              clear hyes hc
              go_wp2_with fail
              generalize (World.setCell _ ⟨H, 1, none⟩ _) = w9 at *
              obtain ⟨x0, x1, _, _⟩ := ZF.out.cells2
              exact bodyPost_ret (v := .tuple #[.agg #[.int .i64 0, .string ⟨#[]⟩], .int .i64 6]) (by simp [results, Tryd.results17, go_sem, x0, x1]) rfl ⟨by rw [HR.out.1, HR.out.2.1, HR.out.2.2]; rfl, QF.out⟩
end Go.Proofs.YtkmpmphabohkkaaDoor
