/-
  Contract of the program's Find.
-/
import Derived.Test.YtgccjdhkpgmnoaaTreeParse2
import Derived.Test.YtgccjdhkpgmnoaaTreeFindMath
namespace Go.Proofs.Ytgccjdhkpgmnoaa
open Go.RowKit

set_option maxRecDepth 100000 in
set_option maxHeartbeats 4000000 in
theorem find_any {w : World} {a : Option Addr} {n c : Nat} {l : List UInt8} {pa : Option Addr} {pn pc : Nat} {path : List Int} (hx : Bs w a n c l) (hn : n ≤ 10000) (hp : Iz w pa pn pc path) :
    Calls Try.prog 26 #[.slice a n c, .slice pa pn pc] w (FindPost w path (parseT 16 l)) := by
  have HI := Lib.hid (fun W (h : Below w.heap.size w W) => parse_any (hx.below h) (by omega))
  have HP := Lib.hid hp
  have hpl := hp.1
  have hpc := hp.2.1
  have hpm := hp.2.2.1
  unfold maxLen at hpm
  have hpn : (pn : Int) ≤ 9223372036854775807 := by omega
  have hll := hx.len
  clear hx hp
  rcases hr : parseT 16 l with ⟨t, s⟩ | ⟨C, O⟩
  · rw [hr] at HI
    obtain ⟨hok, hdep, henc, _⟩ := parseT_ok hr
    have hsz : sizT t ≤ n := by
      have h1 := rdT_lim 16 l
      have hr2 := hr
      unfold parseT at hr2
      rcases hq : rdT 16 l with ⟨t', s'⟩ | ⟨c', o'⟩
      · rw [hq] at h1 hr2
        simp only at h1 hr2
        split at hr2
        · cases hr2
        · injection hr2 with e1 e2
          subst e1
          omega
      · rw [hq] at hr2
        cases hr2
    have hlt0 : Hid ((encT t).length = n) := by show _ = _; rw [henc]; exact hll
    have HOK := Lib.hid hok
    unfold ParsePost erV at HI
    simp only at HI
    clear hr hok hdep henc hll
    go_enter Try.func26, Try.ntmps26
    go_wp2_with fail
    refine (HI.out _ (bal (bal (Below.refl _ w) _) _)).mono ?_
    rintro e w2 ⟨cs, rfl, hnd, q⟩
    cases t with
    | node c' n' k' l' ks' =>
    obtain ⟨a', m', d', ka', kn', kc', rfl, _⟩ := hnd.parts
    have Z2 := Lib.hid (((Blk.new w 47 #[.int .i64 0, .int .i64 0]).alloc (.cells #[.int .i64 0, .int .i64 0] 29)).below q (by simp; omega))
    have Z3 : Hid (Blk w2 (w.heap.size + 1) 29 #[.int .i64 0, .int .i64 0]) := by show Blk _ _ _ _; simpa using (((Blk.new (w.alloc (.cells #[.int .i64 0, .int .i64 0] 47)) 29 #[.int .i64 0, .int .i64 0])).below q (by simp))
    have BB := Lib.hid (bthen (bal (bal (Below.refl _ w) _) _) q)
    have G4 := Lib.hid (((Z2.out.alloc (.cells #[.int .i64 c', .int .i64 n', .bool k', .slice a' m' d', .slice ka' kn' kc'] 26)).alloc (.cells #[.int .i64 0, .int .i64 0] 29)).alloc (.cells #[.int .i64 0, .int .i64 n] 47))
    have E4 := Lib.hid (((Z3.out.alloc (.cells #[.int .i64 c', .int .i64 n', .bool k', .slice a' m' d', .slice ka' kn' kc'] 26)).alloc (.cells #[.int .i64 0, .int .i64 0] 29)).alloc (.cells #[.int .i64 0, .int .i64 n] 47))
    have N4 := Lib.hid (((Blk.new w2 26 #[.int .i64 c', .int .i64 n', .bool k', .slice a' m' d', .slice ka' kn' kc']).alloc (.cells #[.int .i64 0, .int .i64 0] 29)).alloc (.cells #[.int .i64 0, .int .i64 n] 47))
    have R4 : Hid (Blk (((w2.alloc (.cells #[.int .i64 c', .int .i64 n', .bool k', .slice a' m' d', .slice ka' kn' kc'] 26)).alloc (.cells #[.int .i64 0, .int .i64 0] 29)).alloc (.cells #[.int .i64 0, .int .i64 n] 47)) (w2.heap.size + 1 + 1) 47 #[.int .i64 0, .int .i64 n]) := by
      have := Blk.new ((w2.alloc (.cells #[.int .i64 c', .int .i64 n', .bool k', .slice a' m' d', .slice ka' kn' kc'] 26)).alloc (.cells #[.int .i64 0, .int .i64 0] 29)) 47 #[.int .i64 0, .int .i64 n]
      show Blk _ _ _ _
      simpa using this
    have Q4 := Lib.hid (bal (bal (bal BB.out (.cells #[.int .i64 c', .int .i64 n', .bool k', .slice a' m' d', .slice ka' kn' kc'] 26)) (.cells #[.int .i64 0, .int .i64 0] 29)) (.cells #[.int .i64 0, .int .i64 n] 47))
    have ND4 := Lib.hid (((hnd.weak (R' := fun b => b < w2.heap.size) fun b hb _ => hb)).below (bal (bal (bal (Below.refl _ w2) (.cells #[.int .i64 c', .int .i64 n', .bool k', .slice a' m' d', .slice ka' kn' kc'] 26)) (.cells #[.int .i64 0, .int .i64 0] 29)) (.cells #[.int .i64 0, .int .i64 n] 47)))
    have hl2 := Z2.out.lt
    have hl3 := Z3.out.lt
    clear q hnd Z2 Z3 BB
    go_wp2_with fail
    generalize (((w2.alloc (.cells #[.int .i64 c', .int .i64 n', .bool k', .slice a' m' d', .slice ka' kn' kc'] 26)).alloc (.cells #[.int .i64 0, .int .i64 0] 29)).alloc (.cells #[.int .i64 0, .int .i64 n] 47)) = w4 at *
    obtain ⟨RB, hRB⟩ : ∃ RB, Hid (w2.heap.size + 1 + 1 = RB) := ⟨_, rfl⟩
    obtain ⟨GN, hGN⟩ : ∃ GN, Hid (w2.heap.size = GN) := ⟨_, rfl⟩
    have hg : w.heap.size + 1 < GN ∧ GN < RB := by have := hGN.out; have := hRB.out; omega
    obtain ⟨hgA, hgB⟩ := hg
    rw [hRB.out] at R4 ⊢
    rw [hGN.out] at N4 ND4 ⊢
    clear hl2 hl3 hGN hRB
    go_loopw [30] (fun i wr => ∃ (j pos TO : Nat) (u : Tree) (c1 n1 : Int) (k1 : Bool) (a1 : Option Addr) (m1 d1 : Nat) (ka : Option Addr) (kn kc : Nat), i = .int .i64 j ∧ j ≤ pn ∧ locT (path.drop j) u pos = locT path (.node c' n' k' l' ks') 0 ∧ pos + (encT u).length = TO ∧ TO ≤ 10000 ∧ sizT u ≤ 10000 ∧
      NdCs wr (fun b => b < GN) [.int .i64 c1, .int .i64 n1, .bool k1, .slice a1 m1 d1, .slice ka kn kc] u ∧ Blk wr GN 26 #[.int .i64 c1, .int .i64 n1, .bool k1, .slice a1 m1 d1, .slice ka kn kc] ∧ Blk wr RB 47 #[.int .i64 pos, .int .i64 TO] ∧ Blk wr w.heap.size 47 #[.int .i64 0, .int .i64 0] ∧ Blk wr (w.heap.size + 1) 29 #[.int .i64 0, .int .i64 0] ∧ Below w.heap.size w wr) (fun i _ => pn - (intOf i).toNat)
    case atStart => exact ⟨0, 0, n, _, _, _, _, _, _, _, _, _, _, rfl, Nat.zero_le _, by rw [List.drop_zero], by rw [hlt0.out, Nat.zero_add], by omega, by omega, ND4.out, N4.out, R4.out, G4.out, E4.out, Q4.out⟩
    case round =>
      obtain ⟨j, pos, TO, u, c1, n1, k1, a1, m1, d1, ka, kn, kc, rfl, hj, hloc, hTO, hTb, hsu, hND, hN, hR, hG, hE, hQ⟩ := hrel
      have LOC := Lib.hid hloc
      have HTO := Lib.hid hTO
      have BND := Lib.hid hND
      have BN := Lib.hid hN
      have BR := Lib.hid hR
      have BG := Lib.hid hG
      have BE := Lib.hid hE
      have Q := Lib.hid hQ
      obtain ⟨hu, _, hK, _⟩ := hND.take_
      have HK := Lib.hid hK
      have HU := Lib.hid hu
      have hkl := hK.1
      have hkc := hK.2.1
      have hkm := hK.2.2.1
      unfold maxLen at hkm
      have hku : (kidsOf u).length ≤ 10000 := by have := len_sizTs (kidsOf u); have := siz_kids u; omega
      have hkn1 : (kn : Int) ≤ 10000 := by omega
      have hTi : (TO : Int) ≤ 10000 := by omega
      have hpTO : (pos : Int) ≤ TO := by omega
      clear hloc hTO hND hN hR hG hE hQ hu hK N4 ND4 R4 G4 E4 Q4
      have z20 := BG.out.cell 0
      have z21 := BG.out.cell 1
      have z30 := BE.out.cell 0
      have z31 := BE.out.cell 1
      have r0 := BR.out.cell 0
      have r1 := BR.out.cell 1
      have rl := BR.out.lt
      have f2 := fun i => BG.out.frozen i
      have f3 := fun i => BE.out.frozen i
      have hl2 := BG.out.lt
      have hl3 := BE.out.lt
      simp only [List.getElem?_toArray, List.getElem?_cons_zero, List.getElem?_cons_succ] at z20 z21 z30 z31 r0 r1
      obtain ⟨n0, n1', n2, n3, n4, nl⟩ := five BN.out
      have hne3 : RB ≠ w.heap.size := by omega
      have hne4 : RB ≠ w.heap.size + 1 := by omega
      by_cases hlt : j < pn
      · obtain ⟨pb, po, hjl, rfl, hpb, pcell, hzlo, hzhi⟩ := (HP.out.below Q.out).at_ hlt
        have hjl2 := hjl
        have LOC2 := LOC.out
        rw [drop_cons hjl2] at LOC2
        generalize path[j] = z at *
        have hlt' : (j : Int) < pn := by omega
        have hj0 : (0 : Int) ≤ j := by omega
        by_cases hzn : z < 0 ∨ (kn : Int) ≤ z
        · rw [locT_stop (by omega)] at LOC2
          have LF := Lib.hid LOC2
          clear LOC2
          rcases hzn with hz | hz
          · go_wp2_with fail
            go_region
            go_wp2_with fail
            refine bodyPost_ret (v := .tuple #[.agg #[.int .i64 0, .int .i64 0], .agg #[.int .i64 10, .int .i64 pos]]) (by simp [results, Try.results26, go_sem, z20, z21, z30, z31]) rfl ?_
            exact find_not LF.out (by repeat (first | with_reducible exact Q.out | with_reducible refine bal ?_ _ | with_reducible refine below_at ?_ _ _ | with_reducible refine below_at1 ?_ _ _ | with_reducible refine below_draw ?_))
          · have hz0 : 0 ≤ z := by omega
            go_wp2_with fail
            go_region
            go_wp2_with fail
            refine bodyPost_ret (v := .tuple #[.agg #[.int .i64 0, .int .i64 0], .agg #[.int .i64 10, .int .i64 pos]]) (by simp [results, Try.results26, go_sem, z20, z21, z30, z31]) rfl ?_
            exact find_not LF.out (by repeat (first | with_reducible exact Q.out | with_reducible refine bal ?_ _ | with_reducible refine below_at ?_ _ _ | with_reducible refine below_at1 ?_ _ _ | with_reducible refine below_draw ?_))
        · have hz0 : 0 ≤ z := by omega
          have hzk : z < kn := by omega
          obtain ⟨x, rfl⟩ : ∃ x : Nat, z = x := ⟨z.toNat, by omega⟩
          clear hzn
          have hxk : x < (kidsOf u).length := by omega
          rw [locT_step (by omega) (by simpa using hxk)] at LOC2
          simp only [Int.toNat_natCast] at LOC2
          obtain ⟨kb, ko, hl, rfl, hkb, c3, n3', k3, a3, m3, d3, ka3, kn3, kc3, y0, y1, y2, y3, y4, hn3⟩ := HK.out.kid (show x < kn by omega)
          have hparts := enc_parts hxk
          have hkle := enc_kids_le u
          have hhdr : hdrT u = (encT u).length - (encTs (kidsOf u)).length := rfl
          have hsk := siz_kids u
          have hsiz := siz_kid hxk
          have hsd : sizTs ((kidsOf u).drop (x + 1)) ≤ 10000 := by
            have h1 := sizTs_drop_le (kidsOf u) (x + 1)
            omega
          have hs1 : sizTs [(kidsOf u)[x]] ≤ 10000 := by unfold sizTs; unfold sizTs; omega
          have HD := kds_drop HK.out (i := x + 1) (by omega)
          have HO := kds_one HK.out hl
          have HS1 := Lib.hid (fun (aa : Option Addr) (nn cc : Nat) (h : Kds wr (fun b => b < GN) aa nn cc ((kidsOf u).drop (x + 1))) => size_any _ _ wr _ aa nn cc hsd (by omega) h)
          have HS2 := Lib.hid (fun W (h : Below wr.heap.size wr W) cc (h1 : 1 ≤ cc) (h2 : cc ≤ maxLen) => size_any _ _ W _ _ 1 cc hs1 (by omega) (kds_cap (HO.below h) h1 h2))
          rw [encTs_cons, encTs_nil, List.append_nil] at HS2
          have hu2 := HTO.out
          generalize (encTs ((kidsOf u).drop (x + 1))).length = LD at *
          generalize hLK : (encT (kidsOf u)[x]).length = LK at *
          generalize (encTs ((kidsOf u).take x)).length = LT at *
          generalize (encTs (kidsOf u)).length = LA at *
          obtain ⟨T1, hT1⟩ : ∃ T1, Hid (TO - LD = T1) := ⟨_, rfl⟩
          obtain ⟨F1, hF1⟩ : ∃ F1, Hid (T1 - LK = F1) := ⟨_, rfl⟩
          have e1 : pos + hdrT u + LT = F1 := by have := hT1.out; have := hF1.out; omega
          have e2 : F1 + LK = T1 := by have := hT1.out; have := hF1.out; omega
          have e3 : T1 ≤ TO := by have := hT1.out; omega
          have g1 : (TO : Int) - LD = T1 := by have := hT1.out; omega
          have g2 : (T1 : Int) - LK = F1 := by have := hF1.out; omega
          have g3 : (LD : Int) ≤ 10000 := by omega
          have g4 : (LK : Int) ≤ 10000 := by omega
          have g5 : (T1 : Int) ≤ 10000 := by omega
          have g6 : (x : Int) ≤ 10000 := by omega
          have g7 : (x : Int) + 1 ≤ kn := by omega
          have g8 : (x : Int) + 1 ≤ kc := by omega
          have g9 : (x : Int) < kn := hzk
          rw [e1] at LOC2
          have LOC3 := Lib.hid LOC2
          have HN3 := Lib.hid hn3
          have HLK := Lib.hid hLK
          have bsz : sizT (kidsOf u)[x] ≤ 10000 := by omega
          clear hparts hkle hhdr hsk hsd hs1 LOC2 hn3 hLK hu2 e1 hT1 hF1 HU LOC HO hku hsiz
          by_cases hkx : kc = x + 1
          · have hkn2 : kn = x + 1 := by omega
            rw [if_pos hkx] at HD
            subst hkx
            subst hkn2
            have HDz := HD
            rw [Nat.sub_self] at HDz
            have HS1b := Lib.hid (HS1.out _ _ _ HDz)
            clear HS1 HD HDz
            go_wp2_with fail
            refine HS1b.out.mono ?_
            rintro e w5 ⟨rfl, q⟩
            have BN5 := Lib.hid (BN.out.below q BN.out.lt)
            have Q5 := Lib.hid q
            obtain ⟨n0, n1', n2, n3, n4, nl⟩ := five BN5.out
            clear q
            go_wp2_with fail
            (with_reducible refine (HS2.out _ Q5.out _ (by omega) (by unfold maxLen; omega)).mono ?_)
            rintro e w6 ⟨rfl, q⟩
            have QQ := Lib.hid (bthen Q5.out q)
            have BN6 := Lib.hid (BN5.out.below q BN5.out.lt)
            have BR6 := Lib.hid (BR.out.below QQ.out BR.out.lt)
            have BG6 := Lib.hid (BG.out.below QQ.out BG.out.lt)
            have BE6 := Lib.hid (BE.out.below QQ.out BE.out.lt)
            have Q6 := Lib.hid (bthen Q.out QQ.out)
            have ND6 := Lib.hid (HN3.out.below QQ.out)
            obtain ⟨yk0, yf0⟩ := bcell QQ.out
            have v0 := (yk0 _ _ hkb).trans y0
            have v1 := (yk0 _ _ hkb).trans y1
            have v2 := (yk0 _ _ hkb).trans y2
            have v3 := (yk0 _ _ hkb).trans y3
            have v4 := (yk0 _ _ hkb).trans y4
            have hkb6 : kb < w6.heap.size := by have := QQ.out.size; omega
            obtain ⟨n0, n1', n2, n3, n4, nl⟩ := five BN6.out
            have nf := fun i => BN6.out.frozen i
            have r0 := BR6.out.cell 0
            have r1 := BR6.out.cell 1
            have rf := fun i => BR6.out.frozen i
            have rl := BR6.out.lt
            have KB : kb < GN := by
              obtain ⟨kb', ko', e, _, hr, _⟩ := HK.out.2.2.2 (by omega)
              injection e with e
              injection e with e
              omega
            have hkr : kb ≠ RB := by omega
            have hkg : kb ≠ GN := by omega
            have hgr : GN ≠ RB := by omega
            simp only [List.getElem?_toArray, List.getElem?_cons_zero, List.getElem?_cons_succ] at r0 r1
            clear q HS1b HS2 BN5 Q5 yk0 yf0 y0 y1 y2 y3 y4 z20 z21 z30 z31 f2 f3 hl2 hl3
            go_wp2_with fail
            go_roundw
            case rel =>
              refine ⟨j + 1, F1, T1, _, c3, n3', k3, a3, m3, d3, ka3, kn3, kc3, by go_num, by omega, LOC3.out, by rw [HLK.out]; exact e2, by omega, bsz, ?_, ?_, ?_, ?_, ?_, ?_⟩
              · refine NdCs.far (p := ⟨GN, 4, none⟩) (NdCs.far (p := ⟨GN, 3, none⟩) (NdCs.far (p := ⟨GN, 2, none⟩) (NdCs.far (p := ⟨GN, 1, none⟩) (NdCs.far (p := ⟨GN, 0, none⟩) (NdCs.far (p := ⟨RB, 0, none⟩) (NdCs.far (p := ⟨RB, 1, none⟩) ND6.out ?_ _) ?_ _) ?_ _) ?_ _) ?_ _) ?_ _) ?_ _ <;> (intro b hb; simp at hb ⊢; omega)
              · have h1 := (BN6.out.far (p := ⟨RB, 1, none⟩) (by simp; omega) (.int .i64 T1)).far (p := ⟨RB, 0, none⟩) (by simp; omega) (.int .i64 F1)
                exact ((((h1.set_ 0 _).set_ 1 _).set_ 2 _).set_ 3 _).set_ 4 _
              · have h1 := (BR6.out.set_ 1 (.int .i64 T1)).set_ 0 (.int .i64 F1)
                exact ((((h1.far (p := ⟨GN, 0, none⟩) (by simp; omega) _).far (p := ⟨GN, 1, none⟩) (by simp; omega) _).far (p := ⟨GN, 2, none⟩) (by simp; omega) _).far (p := ⟨GN, 3, none⟩) (by simp; omega) _).far (p := ⟨GN, 4, none⟩) (by simp; omega) _
              · exact ((((((BG6.out.far (p := ⟨RB, 1, none⟩) (by simp; omega) _).far (p := ⟨RB, 0, none⟩) (by simp; omega) _).far (p := ⟨GN, 0, none⟩) (by simp; omega) _).far (p := ⟨GN, 1, none⟩) (by simp; omega) _).far (p := ⟨GN, 2, none⟩) (by simp; omega) _).far (p := ⟨GN, 3, none⟩) (by simp; omega) _).far (p := ⟨GN, 4, none⟩) (by simp; omega) _
              · exact ((((((BE6.out.far (p := ⟨RB, 1, none⟩) (by simp; omega) _).far (p := ⟨RB, 0, none⟩) (by simp; omega) _).far (p := ⟨GN, 0, none⟩) (by simp; omega) _).far (p := ⟨GN, 1, none⟩) (by simp; omega) _).far (p := ⟨GN, 2, none⟩) (by simp; omega) _).far (p := ⟨GN, 3, none⟩) (by simp; omega) _).far (p := ⟨GN, 4, none⟩) (by simp; omega) _
              · exact ((((((Q6.out.setCell (p := ⟨RB, 1, none⟩) (by simp; omega) _).setCell (p := ⟨RB, 0, none⟩) (by simp; omega) _).setCell (p := ⟨GN, 0, none⟩) (by simp; omega) _).setCell (p := ⟨GN, 1, none⟩) (by simp; omega) _).setCell (p := ⟨GN, 2, none⟩) (by simp; omega) _).setCell (p := ⟨GN, 3, none⟩) (by simp; omega) _).setCell (p := ⟨GN, 4, none⟩) (by simp; omega) _
            case measure => simp [intOf]; omega
          · rw [if_neg hkx] at HD
            have HS1b := Lib.hid (HS1.out _ _ _ HD)
            clear HS1 HD
            go_wp2_with fail
            refine HS1b.out.mono ?_
            rintro e w5 ⟨rfl, q⟩
            have BN5 := Lib.hid (BN.out.below q BN.out.lt)
            have Q5 := Lib.hid q
            obtain ⟨n0, n1', n2, n3, n4, nl⟩ := five BN5.out
            clear q
            go_wp2_with fail
            (with_reducible refine (HS2.out _ Q5.out _ (by omega) (by unfold maxLen; omega)).mono ?_)
            rintro e w6 ⟨rfl, q⟩
            have QQ := Lib.hid (bthen Q5.out q)
            have BN6 := Lib.hid (BN5.out.below q BN5.out.lt)
            have BR6 := Lib.hid (BR.out.below QQ.out BR.out.lt)
            have BG6 := Lib.hid (BG.out.below QQ.out BG.out.lt)
            have BE6 := Lib.hid (BE.out.below QQ.out BE.out.lt)
            have Q6 := Lib.hid (bthen Q.out QQ.out)
            have ND6 := Lib.hid (HN3.out.below QQ.out)
            obtain ⟨yk0, yf0⟩ := bcell QQ.out
            have v0 := (yk0 _ _ hkb).trans y0
            have v1 := (yk0 _ _ hkb).trans y1
            have v2 := (yk0 _ _ hkb).trans y2
            have v3 := (yk0 _ _ hkb).trans y3
            have v4 := (yk0 _ _ hkb).trans y4
            have hkb6 : kb < w6.heap.size := by have := QQ.out.size; omega
            obtain ⟨n0, n1', n2, n3, n4, nl⟩ := five BN6.out
            have nf := fun i => BN6.out.frozen i
            have r0 := BR6.out.cell 0
            have r1 := BR6.out.cell 1
            have rf := fun i => BR6.out.frozen i
            have rl := BR6.out.lt
            have KB : kb < GN := by
              obtain ⟨kb', ko', e, _, hr, _⟩ := HK.out.2.2.2 (by omega)
              injection e with e
              injection e with e
              omega
            have hkr : kb ≠ RB := by omega
            have hkg : kb ≠ GN := by omega
            have hgr : GN ≠ RB := by omega
            simp only [List.getElem?_toArray, List.getElem?_cons_zero, List.getElem?_cons_succ] at r0 r1
            clear q HS1b HS2 BN5 Q5 yk0 yf0 y0 y1 y2 y3 y4 z20 z21 z30 z31 f2 f3 hl2 hl3
            go_wp2_with fail
            go_roundw
            case rel =>
              refine ⟨j + 1, F1, T1, _, c3, n3', k3, a3, m3, d3, ka3, kn3, kc3, by go_num, by omega, LOC3.out, by rw [HLK.out]; exact e2, by omega, bsz, ?_, ?_, ?_, ?_, ?_, ?_⟩
              · refine NdCs.far (p := ⟨GN, 4, none⟩) (NdCs.far (p := ⟨GN, 3, none⟩) (NdCs.far (p := ⟨GN, 2, none⟩) (NdCs.far (p := ⟨GN, 1, none⟩) (NdCs.far (p := ⟨GN, 0, none⟩) (NdCs.far (p := ⟨RB, 0, none⟩) (NdCs.far (p := ⟨RB, 1, none⟩) ND6.out ?_ _) ?_ _) ?_ _) ?_ _) ?_ _) ?_ _) ?_ _ <;> (intro b hb; simp at hb ⊢; omega)
              · have h1 := (BN6.out.far (p := ⟨RB, 1, none⟩) (by simp; omega) (.int .i64 T1)).far (p := ⟨RB, 0, none⟩) (by simp; omega) (.int .i64 F1)
                exact ((((h1.set_ 0 _).set_ 1 _).set_ 2 _).set_ 3 _).set_ 4 _
              · have h1 := (BR6.out.set_ 1 (.int .i64 T1)).set_ 0 (.int .i64 F1)
                exact ((((h1.far (p := ⟨GN, 0, none⟩) (by simp; omega) _).far (p := ⟨GN, 1, none⟩) (by simp; omega) _).far (p := ⟨GN, 2, none⟩) (by simp; omega) _).far (p := ⟨GN, 3, none⟩) (by simp; omega) _).far (p := ⟨GN, 4, none⟩) (by simp; omega) _
              · exact ((((((BG6.out.far (p := ⟨RB, 1, none⟩) (by simp; omega) _).far (p := ⟨RB, 0, none⟩) (by simp; omega) _).far (p := ⟨GN, 0, none⟩) (by simp; omega) _).far (p := ⟨GN, 1, none⟩) (by simp; omega) _).far (p := ⟨GN, 2, none⟩) (by simp; omega) _).far (p := ⟨GN, 3, none⟩) (by simp; omega) _).far (p := ⟨GN, 4, none⟩) (by simp; omega) _
              · exact ((((((BE6.out.far (p := ⟨RB, 1, none⟩) (by simp; omega) _).far (p := ⟨RB, 0, none⟩) (by simp; omega) _).far (p := ⟨GN, 0, none⟩) (by simp; omega) _).far (p := ⟨GN, 1, none⟩) (by simp; omega) _).far (p := ⟨GN, 2, none⟩) (by simp; omega) _).far (p := ⟨GN, 3, none⟩) (by simp; omega) _).far (p := ⟨GN, 4, none⟩) (by simp; omega) _
              · exact ((((((Q6.out.setCell (p := ⟨RB, 1, none⟩) (by simp; omega) _).setCell (p := ⟨RB, 0, none⟩) (by simp; omega) _).setCell (p := ⟨GN, 0, none⟩) (by simp; omega) _).setCell (p := ⟨GN, 1, none⟩) (by simp; omega) _).setCell (p := ⟨GN, 2, none⟩) (by simp; omega) _).setCell (p := ⟨GN, 3, none⟩) (by simp; omega) _).setCell (p := ⟨GN, 4, none⟩) (by simp; omega) _
            case measure => simp [intOf]; omega
      · have hje : j = pn := by omega
        subst hje
        have LOC2 := LOC.out
        rw [List.drop_of_length_le (by omega), locT] at LOC2
        have LF := Lib.hid LOC2
        clear LOC2
        go_wp2_with fail
        refine bodyPost_ret (v := .tuple #[.agg #[.int .i64 pos, .int .i64 TO], .agg #[.int .i64 0, .int .i64 0]]) (by simp [results, Try.results26, go_sem, z20, z21, z30, z31]) rfl ?_
        exact find_yes LF.out HTO.out (by repeat (first | with_reducible exact Q.out | with_reducible refine bal ?_ _ | with_reducible refine below_at ?_ _ _ | with_reducible refine below_at1 ?_ _ _ | with_reducible refine below_draw ?_))
  · rw [hr] at HI
    obtain ⟨ho, hc1⟩ := parseT_err hr
    unfold ParsePost erV zeroN at HI
    simp only at HI
    have hC : ((C : Int) == 0) = false := by simp; omega
    have hC2 : ((C : Int) != 0) = true := by simp; omega
    clear hr
    go_enter Try.func26, Try.ntmps26
    go_wp2_with fail
    refine (HI.out _ (bal (bal (Below.refl _ w) _) _)).mono ?_
    rintro e w2 ⟨rfl, q⟩
    have Z2 := Lib.hid (((Blk.new w 47 #[.int .i64 0, .int .i64 0]).alloc (.cells #[.int .i64 0, .int .i64 0] 29)).below q (by simp; omega))
    have Z3 : Hid (Blk w2 (w.heap.size + 1) 29 #[.int .i64 0, .int .i64 0]) := by show Blk _ _ _ _; simpa using (((Blk.new (w.alloc (.cells #[.int .i64 0, .int .i64 0] 47)) 29 #[.int .i64 0, .int .i64 0])).below q (by simp))
    have G4 := Lib.hid ((Z2.out.alloc (.cells #[.int .i64 0, .int .i64 0, .bool false, .slice none 0 0, .slice none 0 0] 26)).alloc (.cells #[.int .i64 C, .int .i64 O] 29))
    have E4 := Lib.hid ((Z3.out.alloc (.cells #[.int .i64 0, .int .i64 0, .bool false, .slice none 0 0, .slice none 0 0] 26)).alloc (.cells #[.int .i64 C, .int .i64 O] 29))
    have R4 : Hid (Blk ((w2.alloc (.cells #[.int .i64 0, .int .i64 0, .bool false, .slice none 0 0, .slice none 0 0] 26)).alloc (.cells #[.int .i64 C, .int .i64 O] 29)) (w2.heap.size + 1) 29 #[.int .i64 C, .int .i64 O]) := by
      have := Blk.new (w2.alloc (.cells #[.int .i64 0, .int .i64 0, .bool false, .slice none 0 0, .slice none 0 0] 26)) 29 #[.int .i64 C, .int .i64 O]
      show Blk _ _ _ _
      simpa using this
    have BB := Lib.hid (bthen (bal (bal (Below.refl _ w) _) _) q)
    have Q4 := Lib.hid (bal (bal BB.out (.cells #[.int .i64 0, .int .i64 0, .bool false, .slice none 0 0, .slice none 0 0] 26)) (.cells #[.int .i64 C, .int .i64 O] 29))
    have hG1 := Z3.out.lt
    clear q
    go_wp2_with fail
    generalize (w2.alloc (.cells #[.int .i64 0, .int .i64 0, .bool false, .slice none 0 0, .slice none 0 0] 26)).alloc (.cells #[.int .i64 C, .int .i64 O] 29) = w4 at *
    obtain ⟨RB, hRB⟩ : ∃ RB, Hid (w2.heap.size + 1 = RB) := ⟨_, rfl⟩
    have hne3 : RB ≠ w.heap.size := by have := hRB.out; omega
    have hne4 : RB ≠ w.heap.size + 1 := by have := hRB.out; omega
    rw [hRB.out] at R4 ⊢
    clear Z2 Z3 BB hG1
    have z20 := G4.out.cell 0
    have z21 := G4.out.cell 1
    have z30 := E4.out.cell 0
    have z31 := E4.out.cell 1
    have r0 := R4.out.cell 0
    have r1 := R4.out.cell 1
    have rl := R4.out.lt
    have f2 := fun i => G4.out.frozen i
    have f3 := fun i => E4.out.frozen i
    have hl2 := G4.out.lt
    have hl3 := E4.out.lt
    simp only [List.getElem?_toArray, List.getElem?_cons_zero, List.getElem?_cons_succ] at z20 z21 z30 z31 r0 r1
    go_region
    go_wp2_with fail
    refine bodyPost_ret (v := .tuple #[.agg #[.int .i64 0, .int .i64 0], .agg #[.int .i64 C, .int .i64 O]]) (by simp [results, Try.results26, go_sem, z20, z21, z30, z31]) rfl ?_
    exact ⟨rfl, by repeat (first | with_reducible exact Q4.out | with_reducible refine bal ?_ _ | with_reducible refine below_at ?_ _ _ | with_reducible refine below_at1 ?_ _ _ | with_reducible refine below_draw ?_)⟩
end Go.Proofs.Ytgccjdhkpgmnoaa
