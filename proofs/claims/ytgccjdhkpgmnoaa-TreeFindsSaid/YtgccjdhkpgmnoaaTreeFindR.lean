/-
  Contract of the reference's Find.
-/
import Derived.Test.YtgccjdhkpgmnoaaTreeParse2
import Derived.Test.YtgccjdhkpgmnoaaTreeFindMath
import Derived.BigQuiet
import Derived.Deep.QuietTactic
import Derived.BigRegion
namespace Go.Proofs.Ytgccjdhkpgmnoaa
open Go.RowKit

set_option maxRecDepth 100000 in
set_option maxHeartbeats 4000000 in
theorem ref_find_any {w : World} {a : Option Addr} {n c : Nat} {l : List UInt8} {pa : Option Addr} {pn pc : Nat} {path : List Int} (hx : Bs w a n c l) (hn : n ≤ 10000) (hp : Iz w pa pn pc path) :
    Calls Try.prog 27 #[.slice a n c, .slice pa pn pc] w (FindPost w path (parseT 16 l)) := by
  have HI := Lib.hid (fun W (h : Below w.heap.size w W) => ref_parse_any (hx.below h) (by omega))
  have HP := Lib.hid hp
  have hpl := hp.1
  have hpc := hp.2.1
  have hpm := hp.2.2.1
  unfold maxLen at hpm
  have hpn : (pn : Int) ≤ 9223372036854775807 := by omega
  have hll := hx.len
  clear hx hp
  rcases hr : parseT 16 l with ⟨t, s⟩ | ⟨C, O⟩
  · rw [hr] at HI
    obtain ⟨hok, hdep, henc, _⟩ := parseT_ok hr
    have hsz : sizT t ≤ n := by
      have h1 := rdT_lim 16 l
      have hr2 := hr
      unfold parseT at hr2
      rcases hq : rdT 16 l with ⟨t', s'⟩ | ⟨c', o'⟩
      · rw [hq] at h1 hr2
        simp only at h1 hr2
        split at hr2
        · cases hr2
        · injection hr2 with e1 e2
          subst e1
          omega
      · rw [hq] at hr2
        cases hr2
    have hlt0 : Hid ((encT t).length = n) := by show _ = _; rw [henc]; exact hll
    have HOK := Lib.hid hok
    unfold ParsePost erV at HI
    simp only at HI
    clear hr hok hdep henc hll
    go_enter Try.func27, Try.ntmps27
    go_wp2_with fail
    refine (HI.out _ (bal (bal (Below.refl _ w) _) _)).mono ?_
    rintro e w2 ⟨cs, rfl, hnd, q⟩
    cases t with
    | node c' n' k' l' ks' =>
    obtain ⟨a', m', d', ka', kn', kc', rfl, _⟩ := hnd.parts
    have Z2 := Lib.hid (((Blk.new w 47 #[.int .i64 0, .int .i64 0]).alloc (.cells #[.int .i64 0, .int .i64 0] 29)).below q (by simp; omega))
    have Z3 : Hid (Blk w2 (w.heap.size + 1) 29 #[.int .i64 0, .int .i64 0]) := by show Blk _ _ _ _; simpa using (((Blk.new (w.alloc (.cells #[.int .i64 0, .int .i64 0] 47)) 29 #[.int .i64 0, .int .i64 0])).below q (by simp))
    have BB := Lib.hid (bthen (bal (bal (Below.refl _ w) _) _) q)
    have G4 := Lib.hid ((Z2.out.alloc (.cells #[.int .i64 c', .int .i64 n', .bool k', .slice a' m' d', .slice ka' kn' kc'] 26)).alloc (.cells #[.int .i64 0, .int .i64 0] 29))
    have E4 := Lib.hid ((Z3.out.alloc (.cells #[.int .i64 c', .int .i64 n', .bool k', .slice a' m' d', .slice ka' kn' kc'] 26)).alloc (.cells #[.int .i64 0, .int .i64 0] 29))
    have N4 := Lib.hid ((Blk.new w2 26 #[.int .i64 c', .int .i64 n', .bool k', .slice a' m' d', .slice ka' kn' kc']).alloc (.cells #[.int .i64 0, .int .i64 0] 29))
    have Q4 := Lib.hid (bal (bal BB.out (.cells #[.int .i64 c', .int .i64 n', .bool k', .slice a' m' d', .slice ka' kn' kc'] 26)) (.cells #[.int .i64 0, .int .i64 0] 29))
    have ND4 := Lib.hid (((hnd.weak (R' := fun b => b < w2.heap.size) fun b hb _ => hb)).below (bal (bal (Below.refl _ w2) (.cells #[.int .i64 c', .int .i64 n', .bool k', .slice a' m' d', .slice ka' kn' kc'] 26)) (.cells #[.int .i64 0, .int .i64 0] 29)))
    have hl2 := Z2.out.lt
    have hl3 := Z3.out.lt
    clear q hnd Z2 Z3 BB
    go_wp2_with fail
    generalize ((w2.alloc (.cells #[.int .i64 c', .int .i64 n', .bool k', .slice a' m' d', .slice ka' kn' kc'] 26)).alloc (.cells #[.int .i64 0, .int .i64 0] 29)) = w4 at *
    obtain ⟨GN, hGN⟩ : ∃ GN, Hid (w2.heap.size = GN) := ⟨_, rfl⟩
    have hgA : w.heap.size + 1 < GN := by have := hGN.out; omega
    rw [hGN.out] at N4 ND4 ⊢
    clear hl2 hl3 hGN
    go_loopw [8, 9] (fun s i wr => ∃ (j pos TO : Nat) (u : Tree) (c1 n1 : Int) (k1 : Bool) (a1 : Option Addr) (m1 d1 : Nat) (ka : Option Addr) (kn kc : Nat), i = .int .i64 j ∧ s = .int .i64 pos ∧ j ≤ pn ∧ locT (path.drop j) u pos = locT path (.node c' n' k' l' ks') 0 ∧ pos + (encT u).length = TO ∧ TO ≤ 10000 ∧ sizT u ≤ 10000 ∧ okT u = true ∧
      NdCs wr (fun b => b < GN) [.int .i64 c1, .int .i64 n1, .bool k1, .slice a1 m1 d1, .slice ka kn kc] u ∧ Blk wr GN 26 #[.int .i64 c1, .int .i64 n1, .bool k1, .slice a1 m1 d1, .slice ka kn kc] ∧ Blk wr w.heap.size 47 #[.int .i64 0, .int .i64 0] ∧ Blk wr (w.heap.size + 1) 29 #[.int .i64 0, .int .i64 0] ∧ Below w.heap.size w wr) (fun _ i _ => pn - (intOf i).toNat)
    case atStart => exact ⟨0, 0, n, _, _, _, _, _, _, _, _, _, _, rfl, rfl, Nat.zero_le _, by rw [List.drop_zero], by rw [hlt0.out, Nat.zero_add], by omega, by omega, HOK.out, ND4.out, N4.out, G4.out, E4.out, Q4.out⟩
    case round =>
      obtain ⟨j, pos, TO, u, c1, n1, k1, a1, m1, d1, ka, kn, kc, rfl, rfl, hj, hloc, hTO, hTb, hsu, hoku, hND, hN, hG, hE, hQ⟩ := hrel
      have LOC := Lib.hid hloc
      have HTO := Lib.hid hTO
      have BND := Lib.hid hND
      have BN := Lib.hid hN
      have BG := Lib.hid hG
      have BE := Lib.hid hE
      have Q := Lib.hid hQ
      have OKU := Lib.hid hoku
      obtain ⟨hu, _, hK, _⟩ := hND.take_
      have HK := Lib.hid hK
      have hkl := hK.1
      have hkc := hK.2.1
      have hkm := hK.2.2.1
      unfold maxLen at hkm
      have hku : (kidsOf u).length ≤ 10000 := by have := len_sizTs (kidsOf u); have := siz_kids u; omega
      have hkn1 : (kn : Int) ≤ 10000 := by omega
      have hTi : (TO : Int) ≤ 10000 := by omega
      have hpTO : (pos : Int) ≤ TO := by omega
      clear hloc hTO hND hN hG hE hQ hu hK N4 ND4 G4 E4 Q4 hoku
      have z20 := BG.out.cell 0
      have z21 := BG.out.cell 1
      have z30 := BE.out.cell 0
      have z31 := BE.out.cell 1
      have f2 := fun i => BG.out.frozen i
      have f3 := fun i => BE.out.frozen i
      have hl2 := BG.out.lt
      have hl3 := BE.out.lt
      simp only [List.getElem?_toArray, List.getElem?_cons_zero, List.getElem?_cons_succ] at z20 z21 z30 z31
      obtain ⟨n0, n1', n2, n3, n4, nl⟩ := five BN.out
      by_cases hlt : j < pn
      · obtain ⟨pb, po, hjl, rfl, hpb, pcell, hzlo, hzhi⟩ := (HP.out.below Q.out).at_ hlt
        have hjl2 := hjl
        have LOC2 := LOC.out
        rw [drop_cons hjl2] at LOC2
        generalize path[j] = z at *
        have hlt' : (j : Int) < pn := by omega
        have hj0 : (0 : Int) ≤ j := by omega
        by_cases hzn : z < 0 ∨ (kn : Int) ≤ z
        · rw [locT_stop (by omega)] at LOC2
          have LF := Lib.hid LOC2
          clear LOC2
          rcases hzn with hz | hz
          · go_wp2_with fail
            go_quiet (fail)
            go_wp2_with fail
            refine bodyPost_ret (v := .tuple #[.agg #[.int .i64 0, .int .i64 0], .agg #[.int .i64 10, .int .i64 pos]]) (by simp [results, Try.results27, go_sem, z20, z21, z30, z31]) rfl ?_
            exact find_not LF.out (by repeat (first | with_reducible exact Q.out | with_reducible exact below_drewN Q.out _ | with_reducible refine bal ?_ _ | with_reducible refine below_at ?_ _ _ | with_reducible refine below_at1 ?_ _ _ | with_reducible refine below_draw ?_ | with_reducible refine below_drewN ?_ _))
          · have hz0 : 0 ≤ z := by omega
            have hzd : decide (z < 0) = false := by simpa using hz0
            go_wp2_with fail
            go_quiet (fail)
            go_wp2_with fail
            refine bodyPost_ret (v := .tuple #[.agg #[.int .i64 0, .int .i64 0], .agg #[.int .i64 10, .int .i64 pos]]) (by simp [results, Try.results27, go_sem, z20, z21, z30, z31]) rfl ?_
            exact find_not LF.out (by repeat (first | with_reducible exact Q.out | with_reducible exact below_drewN Q.out _ | with_reducible refine bal ?_ _ | with_reducible refine below_at ?_ _ _ | with_reducible refine below_at1 ?_ _ _ | with_reducible refine below_draw ?_ | with_reducible refine below_drewN ?_ _))
        · have hz0 : 0 ≤ z := by omega
          have hzk : z < kn := by omega
          obtain ⟨x, rfl⟩ : ∃ x : Nat, z = x := ⟨z.toNat, by omega⟩
          clear hzn
          have hzd : decide ((x : Int) < 0) = false := by simp
          go_wp2_with fail
          go_quiet (fail)
          have hdk : decide (kn ≤ x) = false := by simp; omega
          simp only [hdk]
          clear hdk
          have BNq := BN.out.drewN nq
          have BGq := BG.out.drewN nq
          have BEq := BE.out.drewN nq
          have Qq : Below wr.heap.size wr (wr.drewN nq) := below_drewN (Below.refl _ _) nq
          have pcq : (wr.drewN nq).cell? ⟨pb, po + j, none⟩ = some (.int .i64 x) := pcell
          obtain ⟨wq, hwq⟩ : ∃ wq, wr.drewN nq = wq := ⟨_, rfl⟩
          rw [hwq] at BNq BGq BEq Qq pcq ⊢
          have NDq := Lib.hid (BND.out.below Qq)
          have HKq := Lib.hid (HK.out.below Qq)
          have Q1 := Lib.hid (bthen Q.out Qq)
          have NQ := Lib.hid BNq
          have GQ := Lib.hid BGq
          have EQ := Lib.hid BEq
          have hpbq : pb < wq.heap.size := by have := Qq.size; omega
          have hxk : x < (kidsOf u).length := by omega
          rw [locT_step (by omega) (by simpa using hxk)] at LOC2
          simp only [Int.toNat_natCast] at LOC2
          have hparts := enc_parts hxk
          have hkle := enc_kids_le u
          have hhdr : hdrT u = (encT u).length - (encTs (kidsOf u)).length := rfl
          have hsiz := siz_kid hxk
          have hTO2 := HTO.out
          obtain ⟨LU, hLUe⟩ : ∃ LU, Hid ((encT u).length = LU) := ⟨_, rfl⟩
          obtain ⟨LA, hLAe⟩ : ∃ LA, Hid ((encTs (kidsOf u)).length = LA) := ⟨_, rfl⟩
          obtain ⟨HD, hHDe⟩ : ∃ HD, Hid (hdrT u = HD) := ⟨_, rfl⟩
          rw [hLUe.out] at hTO2 hhdr hkle
          rw [hLAe.out] at hhdr hparts hkle
          rw [hHDe.out] at hhdr LOC2
          have LTk := Lib.hid (fun k => encTs_take_len_le (kidsOf u) k)
          rw [hLAe.out] at LTk
          have OKS := Lib.hid (fun k (h : k < (kidsOf u).length) => okTs_at _ k h (okT_kids OKU.out))
          have SZK := Lib.hid (fun k (h : k < (kidsOf u).length) => siz_kid h)
          have e1 : (pos : Int) + LU - LA = ((pos + HD : Nat) : Int) := by omega
          have hLAb : (LA : Int) ≤ 10000 := by omega
          have hLUb : (LU : Int) ≤ 10000 := by omega
          have hposb : (pos : Int) ≤ 10000 := by omega
          have HBU := Lib.hid (fun W (h : Below wq.heap.size wq W) => ref_bytes_any _ u W _ _ (Nat.le_refl _) (by omega) OKU.out (NDq.out.below h))
          rw [hLUe.out] at HBU
          have hbLT := LTk.out x
          have hbnd : pos + HD + LA ≤ 10000 := by omega
          have LOCx := Lib.hid LOC2
          have hparts2 := Lib.hid hparts
          have hTO3 := Lib.hid hTO2
          have hhdr2 := Lib.hid hhdr
          have HSZ : Hid (sizT (kidsOf u)[x] ≤ 10000) := by show _ ≤ _; omega
          clear hwq Qq BNq BGq BEq BND BN BG BE HK Q z20 z21 z30 z31 f2 f3 hl2 hl3 n0 n1' n2 n3 n4 nl LOC2 LOC hparts hkle hhdr hsiz hTO2 pcell hpb hku OKU
          go_wp2_with fail
          go_loopw [10, 11] (fun s i wx => ∃ k S : Nat, k ≤ kn ∧ i = .int .i64 k ∧ s = .int .i64 S ∧ (encTs ((kidsOf u).take k)).length = S ∧ Below wq.heap.size wq wx) (fun _ i _ => kn - (intOf i).toNat)
          case atStart => exact ⟨0, 0, Nat.zero_le _, rfl, rfl, by rw [List.take_zero, encTs_nil]; rfl, Below.refl _ _⟩
          case round =>
            obtain ⟨k, S, hk, rfl, rfl, hS, hx⟩ := hrel
            have QX := Lib.hid hx
            have HSS := Lib.hid hS
            have hSb : (S : Int) ≤ 10000 := by have := LTk.out k; omega
            obtain ⟨n0, n1', n2, n3, n4, nl⟩ := five (NQ.out.below hx NQ.out.lt)
            clear hx hS
            by_cases hlk : k < kn
            · obtain ⟨kb, ko, hl, rfl, hkb, c3, n3', k3, a3, m3, d3, ka3, kn3, kc3, y0, y1, y2, y3, y4, hn3⟩ := (HKq.out.below QX.out).kid hlk
              have HB := Lib.hid (ref_bytes_any _ _ _ _ _ (Nat.le_refl _) (by have := SZK.out k hl; omega) (OKS.out k hl) hn3)
              have hT := congrArg List.length (encTs_take hl)
              rw [List.length_append] at hT
              have hle := LTk.out (k + 1)
              generalize (encT (kidsOf u)[k]).length = LK at *
              have hST : Hid ((encTs ((kidsOf u).take (k + 1))).length = S + LK) := by show _ = _; have := HSS.out; omega
              have hLKb : (LK : Int) ≤ 10000 := by have := HSS.out; omega
              have hlk' : (k : Int) < kn := by omega
              have hk0 : (0 : Int) ≤ k := by omega
              clear hT hle hn3
              go_wp2_with fail
              refine HB.out.mono ?_
              rintro e w6 ⟨a6, c6, rfl, _, q⟩
              have Q6 := Lib.hid (bthen QX.out q)
              clear q HB
              go_wp2_with fail
              go_roundw
              case rel => exact ⟨k + 1, S + LK, by omega, by go_num, by go_num, hST.out, Q6.out⟩
              case measure => simp [intOf]; omega
            · have hke : k = kn := by omega
              have hSA : S = LA := by
                have h1 := HSS.out
                rw [List.take_of_length_le (by omega)] at h1
                have := hLAe.out
                omega
              subst hSA
              subst hke
              go_wp2_with fail
              refine (HBU.out _ QX.out).mono ?_
              rintro e w6 ⟨a6, c6, rfl, _, q⟩
              have Q6 := Lib.hid (bthen QX.out q)
              clear q QX n0 n1' n2 n3 n4 nl HBU
              obtain ⟨PH, hPH⟩ : ∃ PH, Hid (pos + HD = PH) := ⟨_, rfl⟩
              rw [hPH.out] at e1 hbnd LOCx
              go_wp2_with fail
              go_loopw [8, 12] (fun s i wy => ∃ k2 S2 : Nat, k2 ≤ x ∧ i = .int .i64 k2 ∧ s = .int .i64 S2 ∧ PH + (encTs ((kidsOf u).take k2)).length = S2 ∧ Below wq.heap.size wq wy) (fun _ i _ => x - (intOf i).toNat)
              case atStart => exact ⟨0, PH, Nat.zero_le _, rfl, by go_num, by rw [List.take_zero, encTs_nil]; rfl, Q6.out⟩
              case round =>
                obtain ⟨k2, S2, hk2, rfl, rfl, hS2, hx2⟩ := hrel
                have QY := Lib.hid hx2
                have HS2 := Lib.hid hS2
                have hSb2 : (S2 : Int) ≤ 10000 := by have := LTk.out k2; omega
                obtain ⟨yk0, _⟩ := bcell hx2
                have pcy := (yk0 _ _ hpbq).trans pcq
                obtain ⟨n0, n1', n2, n3, n4, nl⟩ := five (NQ.out.below hx2 NQ.out.lt)
                have nf := fun i => (NQ.out.below hx2 NQ.out.lt).frozen i
                have hpby : pb < _ := Nat.lt_of_lt_of_le hpbq hx2.size
                clear hx2 hS2 yk0 Q6
                by_cases hlk2 : k2 < x
                · obtain ⟨kb, ko, hl, rfl, hkb, c3, n3', k3, a3, m3, d3, ka3, kn3, kc3, y0, y1, y2, y3, y4, hn3⟩ := (HKq.out.below QY.out).kid (show k2 < k by omega)
                  have HB := Lib.hid (ref_bytes_any _ _ _ _ _ (Nat.le_refl _) (by have := SZK.out k2 hl; omega) (OKS.out k2 hl) hn3)
                  have hT := congrArg List.length (encTs_take hl)
                  rw [List.length_append] at hT
                  have hle := LTk.out (k2 + 1)
                  generalize (encT (kidsOf u)[k2]).length = LK at *
                  have hST : Hid (PH + (encTs ((kidsOf u).take (k2 + 1))).length = S2 + LK) := by show _ = _; have := HS2.out; omega
                  have hLKb : (LK : Int) ≤ 10000 := by have := HS2.out; omega
                  have hlk' : (k2 : Int) < x := by omega
                  have hlk3 : (k2 : Int) < k := by omega
                  have hk0 : (0 : Int) ≤ k2 := by omega
                  clear hT hle hn3
                  go_wp2_with fail
                  refine HB.out.mono ?_
                  rintro e w7 ⟨a6, c6, rfl, _, q⟩
                  have Q7 := Lib.hid (bthen QY.out q)
                  clear q HB
                  go_wp2_with fail
                  go_roundw
                  case rel => exact ⟨k2 + 1, S2 + LK, by omega, by go_num, by go_num, hST.out, Q7.out⟩
                  case measure => simp [intOf]; omega
                · have hke : k2 = x := by omega
                  subst hke
                  obtain ⟨kb, ko, hl, rfl, hkb, c3, n3', k3, a3, m3, d3, ka3, kn3, kc3, y0, y1, y2, y3, y4, hn3⟩ := (HKq.out.below QY.out).kid (show k2 < k by omega)
                  have KB : kb < GN := by
                    obtain ⟨kb', ko', e, _, hr, _⟩ := HKq.out.2.2.2 (by omega)
                    injection e with e
                    injection e with e
                    omega
                  have hkg : kb ≠ GN := by omega
                  have ND7 := Lib.hid hn3
                  have BN7 := Lib.hid (NQ.out.below QY.out NQ.out.lt)
                  have BG7 := Lib.hid (GQ.out.below QY.out GQ.out.lt)
                  have BE7 := Lib.hid (EQ.out.below QY.out EQ.out.lt)
                  have Q7 := Lib.hid (bthen Q1.out QY.out)
                  clear hn3
                  go_wp2_with fail
                  go_region
                  go_wp2_with fail
                  go_roundw
                  case rel =>
                    refine ⟨j + 1, S2, S2 + (encT (kidsOf u)[k2]).length, _, c3, n3', k3, a3, m3, d3, ka3, kn3, kc3, by go_num, rfl, by omega, by rw [← LOCx.out, HS2.out], rfl, ?_, HSZ.out, OKS.out k2 hl, ?_, ?_, ?_, ?_, ?_⟩
                    · have h1 := hparts2.out
                      have h2 := HS2.out
                      omega
                    · refine NdCs.drew (NdCs.far (p := ⟨GN, 4, none⟩) (NdCs.far (p := ⟨GN, 3, none⟩) (NdCs.far (p := ⟨GN, 2, none⟩) (NdCs.far (p := ⟨GN, 1, none⟩) (NdCs.far (p := ⟨GN, 0, none⟩) ND7.out ?_ _) ?_ _) ?_ _) ?_ _) ?_ _) <;> (intro b hb; simp at hb ⊢; omega)
                    · exact (((((BN7.out.set_ 0 _).set_ 1 _).set_ 2 _).set_ 3 _).set_ 4 _).drewN 1
                    · exact (((((BG7.out.far (p := ⟨GN, 0, none⟩) (by simp; omega) _).far (p := ⟨GN, 1, none⟩) (by simp; omega) _).far (p := ⟨GN, 2, none⟩) (by simp; omega) _).far (p := ⟨GN, 3, none⟩) (by simp; omega) _).far (p := ⟨GN, 4, none⟩) (by simp; omega) _).drewN 1
                    · exact (((((BE7.out.far (p := ⟨GN, 0, none⟩) (by simp; omega) _).far (p := ⟨GN, 1, none⟩) (by simp; omega) _).far (p := ⟨GN, 2, none⟩) (by simp; omega) _).far (p := ⟨GN, 3, none⟩) (by simp; omega) _).far (p := ⟨GN, 4, none⟩) (by simp; omega) _).drewN 1
                    · exact below_drewN (((((Q7.out.setCell (p := ⟨GN, 0, none⟩) (by simp; omega) _).setCell (p := ⟨GN, 1, none⟩) (by simp; omega) _).setCell (p := ⟨GN, 2, none⟩) (by simp; omega) _).setCell (p := ⟨GN, 3, none⟩) (by simp; omega) _).setCell (p := ⟨GN, 4, none⟩) (by simp; omega) _) 1
                  case measure => simp [intOf]; omega
      · have hje : j = pn := by omega
        subst hje
        have LOC2 := LOC.out
        rw [List.drop_of_length_le (by omega), locT] at LOC2
        have LF := Lib.hid LOC2
        have HB := Lib.hid (ref_bytes_any _ u wr _ _ (Nat.le_refl _) (by omega) OKU.out BND.out)
        have hTO2 := HTO.out
        obtain ⟨LU, hLUe⟩ : ∃ LU, Hid ((encT u).length = LU) := ⟨_, rfl⟩
        rw [hLUe.out] at hTO2 HB
        have hLU : (LU : Int) ≤ 10000 := by omega
        have hsumTO : (pos : Int) + LU = TO := by omega
        clear LOC2 hTO2
        go_wp2_with fail
        refine HB.out.mono ?_
        rintro e w5 ⟨a5, c5, rfl, _, q⟩
        have BG5 := Lib.hid (BG.out.below q BG.out.lt)
        have BE5 := Lib.hid (BE.out.below q BE.out.lt)
        have Q5 := Lib.hid (bthen Q.out q)
        have z20 := BG5.out.cell 0
        have z21 := BG5.out.cell 1
        have z30 := BE5.out.cell 0
        have z31 := BE5.out.cell 1
        have f2 := fun i => BG5.out.frozen i
        have f3 := fun i => BE5.out.frozen i
        have hl2 := BG5.out.lt
        have hl3 := BE5.out.lt
        simp only [List.getElem?_toArray, List.getElem?_cons_zero, List.getElem?_cons_succ] at z20 z21 z30 z31
        clear q HB
        go_wp2_with fail
        refine bodyPost_ret (v := .tuple #[.agg #[.int .i64 pos, .int .i64 TO], .agg #[.int .i64 0, .int .i64 0]]) (by simp [results, Try.results27, go_sem, z20, z21, z30, z31]) rfl ?_
        exact find_yes LF.out HTO.out (by repeat (first | with_reducible exact Q5.out | with_reducible refine bal ?_ _ | with_reducible refine below_at ?_ _ _ | with_reducible refine below_at1 ?_ _ _ | with_reducible refine below_draw ?_))
  · rw [hr] at HI
    obtain ⟨ho, hc1⟩ := parseT_err hr
    unfold ParsePost erV zeroN at HI
    simp only at HI
    have hC : ((C : Int) == 0) = false := by simp; omega
    have hC2 : ((C : Int) != 0) = true := by simp; omega
    clear hr
    go_enter Try.func27, Try.ntmps27
    go_wp2_with fail
    refine (HI.out _ (bal (bal (Below.refl _ w) _) _)).mono ?_
    rintro e w2 ⟨rfl, q⟩
    have Z2 := Lib.hid (((Blk.new w 47 #[.int .i64 0, .int .i64 0]).alloc (.cells #[.int .i64 0, .int .i64 0] 29)).below q (by simp; omega))
    have Z3 : Hid (Blk w2 (w.heap.size + 1) 29 #[.int .i64 0, .int .i64 0]) := by show Blk _ _ _ _; simpa using (((Blk.new (w.alloc (.cells #[.int .i64 0, .int .i64 0] 47)) 29 #[.int .i64 0, .int .i64 0])).below q (by simp))
    have G4 := Lib.hid ((Z2.out.alloc (.cells #[.int .i64 0, .int .i64 0, .bool false, .slice none 0 0, .slice none 0 0] 26)).alloc (.cells #[.int .i64 C, .int .i64 O] 29))
    have E4 := Lib.hid ((Z3.out.alloc (.cells #[.int .i64 0, .int .i64 0, .bool false, .slice none 0 0, .slice none 0 0] 26)).alloc (.cells #[.int .i64 C, .int .i64 O] 29))
    have R4 : Hid (Blk ((w2.alloc (.cells #[.int .i64 0, .int .i64 0, .bool false, .slice none 0 0, .slice none 0 0] 26)).alloc (.cells #[.int .i64 C, .int .i64 O] 29)) (w2.heap.size + 1) 29 #[.int .i64 C, .int .i64 O]) := by
      have := Blk.new (w2.alloc (.cells #[.int .i64 0, .int .i64 0, .bool false, .slice none 0 0, .slice none 0 0] 26)) 29 #[.int .i64 C, .int .i64 O]
      show Blk _ _ _ _
      simpa using this
    have BB := Lib.hid (bthen (bal (bal (Below.refl _ w) _) _) q)
    have Q4 := Lib.hid (bal (bal BB.out (.cells #[.int .i64 0, .int .i64 0, .bool false, .slice none 0 0, .slice none 0 0] 26)) (.cells #[.int .i64 C, .int .i64 O] 29))
    have hG1 := Z3.out.lt
    clear q
    go_wp2_with fail
    generalize (w2.alloc (.cells #[.int .i64 0, .int .i64 0, .bool false, .slice none 0 0, .slice none 0 0] 26)).alloc (.cells #[.int .i64 C, .int .i64 O] 29) = w4 at *
    obtain ⟨RB, hRB⟩ : ∃ RB, Hid (w2.heap.size + 1 = RB) := ⟨_, rfl⟩
    have hne3 : RB ≠ w.heap.size := by have := hRB.out; omega
    have hne4 : RB ≠ w.heap.size + 1 := by have := hRB.out; omega
    rw [hRB.out] at R4 ⊢
    clear Z2 Z3 BB hG1
    have z20 := G4.out.cell 0
    have z21 := G4.out.cell 1
    have z30 := E4.out.cell 0
    have z31 := E4.out.cell 1
    have r0 := R4.out.cell 0
    have r1 := R4.out.cell 1
    have rl := R4.out.lt
    have f2 := fun i => G4.out.frozen i
    have f3 := fun i => E4.out.frozen i
    have hl2 := G4.out.lt
    have hl3 := E4.out.lt
    simp only [List.getElem?_toArray, List.getElem?_cons_zero, List.getElem?_cons_succ] at z20 z21 z30 z31 r0 r1
    go_region
    go_wp2_with fail
    refine bodyPost_ret (v := .tuple #[.agg #[.int .i64 0, .int .i64 0], .agg #[.int .i64 C, .int .i64 O]]) (by simp [results, Try.results27, go_sem, z20, z21, z30, z31]) rfl ?_
    exact ⟨rfl, by repeat (first | with_reducible exact Q4.out | with_reducible refine bal ?_ _ | with_reducible refine below_at ?_ _ _ | with_reducible refine below_at1 ?_ _ _ | with_reducible refine below_draw ?_)⟩
end Go.Proofs.Ytgccjdhkpgmnoaa
