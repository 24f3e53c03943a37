/-
  Contract of the reference's Read.
-/
import Derived.Test.YtgccjdhkpgmnoaaTreeReadMath
import Derived.Deep.RegionHeld3
import Derived.BigRegion
import Derived.Deep.AppendLies
namespace Go.Proofs.Ytgccjdhkpgmnoaa
open Go.RowKit

theorem read_zero {w : World} {s : Value} : Calls Try.prog 40 #[s, .int .i64 0] w (ReadPost w (.err 5 0) 0) := by
  go_enter Try.func40, Try.ntmps40
  go_wp2_with fail
  exact bodyPost_ret (v := .tuple #[zeroN, .int .i64 0, erV 5 0]) (by simp [results, Try.results40, go_sem, zeroN, erV]) rfl ⟨rfl, by repeat (first | with_reducible exact Below.refl _ _ | with_reducible refine bal ?_ _ | with_reducible refine below_at ?_ _ _ | with_reducible refine below_at1 ?_ _ _ | with_reducible refine below_draw ?_)⟩

set_option maxRecDepth 100000 in
set_option maxHeartbeats 4000000 in
theorem ref_read_any (D : Nat) : ∀ (w : World) (a : Option Addr) (n c : Nat) (l : List UInt8), D ≤ 1000 → n ≤ 100000 → Bs w a n c l →
    Calls Try.prog 40 #[.slice a n c, .int .i64 D] w (ReadPost w (rdT D l) 0) := by
  induction D with
  | zero => intro w a n c l _ _ _; rw [rdT]; exact read_zero
  | succ D ih =>
    intro w a n c l hD hn hx
    have HX := Lib.hid hx
    have IH := Lib.hid (fun w a n c l hn hx => ih w a n c l (by omega) hn hx)
    have HN := Lib.hid (fun W (h : Below w.heap.size w W) => ref_next_from hx h (by omega))
    have hl := hx.len
    have hD2 : ((D + 1 : Nat) : Int) = (D : Int) + 1 := by omega
    have hDz2 : ((D : Int) + 1 == 0) = false := by simp; omega
    rw [hD2]
    have hDb : (D : Int) ≤ 1000 := by omega
    clear hD2 ih hx
    by_cases hq : (rdNext l).h.code = 0
    · obtain ⟨hh, hfit, hs6⟩ := rdNext_good hq
      rcases hkc : (rdNext l).h.con with _ | _
      · rw [rdT_prim hq hkc]
        rw [hkc] at hh
        unfold RefNextFrom at HN
        rw [hh] at HN
        generalize (rdNext l).h.cls = CL at *
        generalize (rdNext l).h.num = NU at *
        generalize (rdNext l).h.size = SZ at *
        generalize (rdNext l).cont = cont at *
        generalize (rdNext l).rest = rest at *
        obtain ⟨M, hM⟩ : ∃ M, Hid (cont.length = M) := ⟨_, rfl⟩
        rw [hM.out] at HN hfit ⊢
        unfold hdV erV at HN
        simp only at HN
        have hMb : (M : Int) ≤ 100000 := by omega
        have hSb : (SZ : Int) ≤ 6 := by omega
        obtain ⟨i0, hi, hz0, hz1, hz2⟩ := info_parts info_u8
        clear hq hh hfit hs6 hkc
        go_enter Try.func40, Try.ntmps40
        go_wp2_with fail
        refine (HN.out _ (bal (bal (Below.refl _ w) _) _)).mono ?_
        rintro e w2 ⟨a1, c1, a2, c2, rfl, hcont, _, q⟩
        have Z2 := Lib.hid (((Blk.new w 26 #[.int .i64 0, .int .i64 0, .bool false, .slice none 0 0, .slice none 0 0]).alloc (.cells #[.int .i64 0, .int .i64 0] 29)).below q (by simp; omega))
        have Z3 : Hid (Blk w2 (w.heap.size + 1) 29 #[.int .i64 0, .int .i64 0]) := by show Blk _ _ _ _; simpa using (((Blk.new (w.alloc (.cells #[.int .i64 0, .int .i64 0, .bool false, .slice none 0 0, .slice none 0 0] 26)) 29 #[.int .i64 0, .int .i64 0])).below q (by simp))
        have BB := Lib.hid (bthen (bal (bal (Below.refl _ w) _) _) q)
        have HC := Lib.hid hcont
        obtain ⟨z20, z21, z22, z23, z24, hl2⟩ := five Z2.out
        have z30 := Z3.out.cell 0
        have z31 := Z3.out.cell 1
        have hl3 := Z3.out.lt
        have f2 := fun i => Z2.out.frozen i
        have f3 := fun i => Z3.out.frozen i
        simp only [List.getElem?_toArray, List.getElem?_cons_zero, List.getElem?_cons_succ] at z30 z31
        clear q hcont
        have OM : Hid (Own ((((w2.alloc (.cells #[.int .i64 CL, .int .i64 NU, .bool false, .int .i64 M, .int .i64 SZ] 63)).alloc (.cells #[.int .i64 0, .int .i64 0] 29)).alloc (.cells #[.int .i64 CL, .int .i64 NU, .bool false, .slice none 0 0, .slice none 0 0] 26)).alloc (.cells #[] 5)) (w2.heap.size + 1 + 1 + 1) 5 (some ⟨w2.heap.size + 1 + 1 + 1, 0, none⟩) 0 0 []) := by
          have := own_made (((w2.alloc (.cells #[.int .i64 CL, .int .i64 NU, .bool false, .int .i64 M, .int .i64 SZ] 63)).alloc (.cells #[.int .i64 0, .int .i64 0] 29)).alloc (.cells #[.int .i64 CL, .int .i64 NU, .bool false, .slice none 0 0, .slice none 0 0] 26)) 5
          show Own _ _ _ _ _ _ _
          simpa using this
        have H4 := Lib.hid (((((Blk.new w2 63 #[.int .i64 CL, .int .i64 NU, .bool false, .int .i64 M, .int .i64 SZ]).alloc (.cells #[.int .i64 0, .int .i64 0] 29)).alloc (.cells #[.int .i64 CL, .int .i64 NU, .bool false, .slice none 0 0, .slice none 0 0] 26)).alloc (.cells #[] 5)))
        have N4 : Hid (Blk ((((w2.alloc (.cells #[.int .i64 CL, .int .i64 NU, .bool false, .int .i64 M, .int .i64 SZ] 63)).alloc (.cells #[.int .i64 0, .int .i64 0] 29)).alloc (.cells #[.int .i64 CL, .int .i64 NU, .bool false, .slice none 0 0, .slice none 0 0] 26)).alloc (.cells #[] 5)) (w2.heap.size + 1 + 1) 26 #[.int .i64 CL, .int .i64 NU, .bool false, .slice none 0 0, .slice none 0 0]) := by
          have := (Blk.new ((w2.alloc (.cells #[.int .i64 CL, .int .i64 NU, .bool false, .int .i64 M, .int .i64 SZ] 63)).alloc (.cells #[.int .i64 0, .int .i64 0] 29)) 26 #[.int .i64 CL, .int .i64 NU, .bool false, .slice none 0 0, .slice none 0 0]).alloc (.cells #[] 5)
          show Blk _ _ _ _
          simpa using this
        have Q4 := Lib.hid (bal (bal (bal (bal BB.out (.cells #[.int .i64 CL, .int .i64 NU, .bool false, .int .i64 M, .int .i64 SZ] 63)) (.cells #[.int .i64 0, .int .i64 0] 29)) (.cells #[.int .i64 CL, .int .i64 NU, .bool false, .slice none 0 0, .slice none 0 0] 26)) (.cells #[] 5))
        have G4 := Lib.hid ((((Z2.out.alloc (.cells #[.int .i64 CL, .int .i64 NU, .bool false, .int .i64 M, .int .i64 SZ] 63)).alloc (.cells #[.int .i64 0, .int .i64 0] 29)).alloc (.cells #[.int .i64 CL, .int .i64 NU, .bool false, .slice none 0 0, .slice none 0 0] 26)).alloc (.cells #[] 5))
        have E4 := Lib.hid ((((Z3.out.alloc (.cells #[.int .i64 CL, .int .i64 NU, .bool false, .int .i64 M, .int .i64 SZ] 63)).alloc (.cells #[.int .i64 0, .int .i64 0] 29)).alloc (.cells #[.int .i64 CL, .int .i64 NU, .bool false, .slice none 0 0, .slice none 0 0] 26)).alloc (.cells #[] 5))
        have C4 := Lib.hid (HC.out.below Q4.out)
        go_wp2_with (at_builtin; go_must (refine wpList_app _ rfl _ _ 22 rfl (w2.heap.size + 1 + 1 + 1) 5 i0 Try.underlying22 hi hz0 hz1 hz2 (some ⟨w2.heap.size + 1 + 1 + 1, 0, none⟩) 0 0 [] rfl OM.out a1 M c1 cont rfl C4.out ?d1 ?d2 ?_))
        case d1 => omega
        case d2 => simp
        intro a5 c5 w5 ho5 hg5
        have D5 := Lib.hid (app_below (B := w2.heap.size + 1 + 1 + 1) OM.out hg5 (Nat.le_refl _) (by simp))
        have H5 := Lib.hid (H4.out.below D5.out (by omega))
        have N5 := Lib.hid (N4.out.below D5.out (by omega))
        have G5 := Lib.hid (G4.out.below D5.out (by omega))
        have E5 := Lib.hid (E4.out.below D5.out (by omega))
        have Q5 : Hid (Below w.heap.size w w5) := Q4.out.trans (D5.out.mono (by omega))
        have O5 := Lib.hid ho5
        clear ho5 hg5 D5 H4 N4 G4 E4 Q4 C4 OM Z2 Z3 BB z20 z21 z22 z23 z24 z30 z31 f2 f3
        obtain ⟨n0, n1, n2, n3, n4, nl⟩ := five N5.out
        have nf := fun i => N5.out.frozen i
        go_wp2_with fail
        have N6 : Hid (Blk (w5.setCell ⟨w2.heap.size + 1 + 1, 3, none⟩ (.slice a5 M c5)) (w2.heap.size + 1 + 1) 26 #[.int .i64 CL, .int .i64 NU, .bool false, .slice a5 M c5, .slice none 0 0]) := N5.out.set_ 3 (.slice a5 M c5)
        have H6 := Lib.hid (H5.out.far (p := ⟨w2.heap.size + 1 + 1, 3, none⟩) (by simp; omega) (.slice a5 M c5))
        have G6 := Lib.hid (G5.out.far (p := ⟨w2.heap.size + 1 + 1, 3, none⟩) (by simp; omega) (.slice a5 M c5))
        have E6 := Lib.hid (E5.out.far (p := ⟨w2.heap.size + 1 + 1, 3, none⟩) (by simp; omega) (.slice a5 M c5))
        have O6 := Lib.hid (O5.out.far (p := ⟨w2.heap.size + 1 + 1, 3, none⟩) (fun x hx => by have := (O5.out.base x hx).1; simp; omega) (.slice a5 M c5))
        have Q6 : Hid (Below w.heap.size w (w5.setCell ⟨w2.heap.size + 1 + 1, 3, none⟩ (.slice a5 M c5))) := Q5.out.setCell (by simp; omega) _
        clear N5 H5 G5 E5 O5 Q5 n0 n1 n2 n3 n4 nl nf
        generalize w5.setCell ⟨w2.heap.size + 1 + 1, 3, none⟩ (.slice a5 M c5) = w6 at *
        obtain ⟨n0, n1, n2, n3, n4, nl⟩ := five N6.out
        obtain ⟨h0, h1, h2, h3, h4, hl⟩ := five H6.out
        have hd : w6.drewN 1 = w6.drew := rfl
        obtain ⟨z20, z21, z22, z23, z24, hl2'⟩ := five G6.out
        have z30 := E6.out.cell 0
        have z31 := E6.out.cell 1
        have f2 := fun i => G6.out.frozen i
        have f3 := fun i => E6.out.frozen i
        have hl3' := E6.out.lt
        simp only [List.getElem?_toArray, List.getElem?_cons_zero, List.getElem?_cons_succ] at z30 z31
        obtain ⟨GN, hGN⟩ : ∃ GN, Hid (w2.heap.size + 1 + 1 = GN) := ⟨_, rfl⟩
        rw [hGN.out] at n0 n1 n2 n3 n4 nl N6 ⊢
        obtain ⟨GH, hGH⟩ : ∃ GH, Hid (w2.heap.size = GH) := ⟨_, rfl⟩
        rw [hGH.out] at h0 h1 h2 h3 h4 hl ⊢
        have hne1 : GN ≠ w.heap.size := by have := hGN.out; omega
        have hne2 : GN ≠ w.heap.size + 1 := by have := hGN.out; omega
        have hne3 : GH ≠ w.heap.size := by have := hGH.out; omega
        have hne4 : GH ≠ w.heap.size + 1 := by have := hGH.out; omega
        clear hl2 hd hD hDb hDz2 hn
        go_region
        go_wp2_with fail
        refine bodyPost_ret (v := .tuple #[.agg #[.int .i64 CL, .int .i64 NU, .bool false, .slice a5 M c5, .slice none 0 0], .int .i64 (SZ + M), .agg #[.int .i64 0, .int .i64 0]]) (by simp [results, Try.results40, go_sem, z20, z21, z22, z23, z24, z30, z31]) rfl ?_
        have hNd : NdCs w6 (fun b => w.heap.size + 2 ≤ b) [.int .i64 CL, .int .i64 NU, .bool false, .slice a5 M c5, .slice none 0 0] (.node CL NU false cont []) :=
          ⟨a5, M, c5, none, 0, 0, rfl, ⟨O6.out.bs, fun _ x hx => by have := (O6.out.base x hx).1; have := hGH.out; have := hGN.out; omega⟩, Kds.nil_ _ _⟩
        have hS := read_stored (B := w.heap.size) (u0 := .int .i64 CL) (u1 := .int .i64 NU) (u2 := .bool false) (u3 := .slice a5 M c5) (u4 := .slice none 0 0) (u5 := .int .i64 0) (u6 := .int .i64 0) hNd Q6.out
        exact ⟨_, by rw [Nat.zero_add]; rfl, hS.1.drew, below_drewN hS.2 1⟩
      · rw [hkc] at hh
        obtain ⟨RKM, hRK⟩ : ∃ r, Hid (rdKids (rdT D) (rdNext l).cont.length (rdNext l).cont (rdNext l).h.size = r) := ⟨_, rfl⟩
        have HOK := Lib.hid (fun ts (h : RKM = .ok ts) => rdT_con_ok hq hkc (hRK.out.trans h))
        have HER := Lib.hid (fun c o (h : RKM = .err c o) => rdT_con_err hq hkc (hRK.out.trans h))
        unfold RefNextFrom at HN
        rw [hh] at HN
        generalize rdT (D + 1) l = RES at *
        generalize (rdNext l).h.cls = CL at *
        generalize (rdNext l).h.num = NU at *
        generalize (rdNext l).h.size = SZ at *
        generalize (rdNext l).cont = cont at *
        generalize (rdNext l).rest = rest at *
        obtain ⟨M, hM⟩ : ∃ M, Hid (cont.length = M) := ⟨_, rfl⟩
        rw [hM.out] at HN hfit HOK hRK
        unfold hdV erV at HN
        simp only at HN
        have hMb : (M : Int) ≤ 100000 := by omega
        have hSb : (SZ : Int) ≤ 6 := by omega
        have hMn : M ≤ 100000 := by omega
        have hLIM := Lib.hid (fun p => rdT_lim D (cont.drop p))
        clear hq hh hfit hs6 hkc
        go_enter Try.func40, Try.ntmps40
        go_wp2_with fail
        refine (HN.out _ (bal (bal (Below.refl _ w) _) _)).mono ?_
        rintro e w2 ⟨a1, c1, a2, c2, rfl, hcont, _, q⟩
        have Z2 := Lib.hid (((Blk.new w 26 #[.int .i64 0, .int .i64 0, .bool false, .slice none 0 0, .slice none 0 0]).alloc (.cells #[.int .i64 0, .int .i64 0] 29)).below q (by simp; omega))
        have Z3 : Hid (Blk w2 (w.heap.size + 1) 29 #[.int .i64 0, .int .i64 0]) := by show Blk _ _ _ _; simpa using (((Blk.new (w.alloc (.cells #[.int .i64 0, .int .i64 0, .bool false, .slice none 0 0, .slice none 0 0] 26)) 29 #[.int .i64 0, .int .i64 0])).below q (by simp))
        have BB := Lib.hid (bthen (bal (bal (Below.refl _ w) _) _) q)
        have HC := Lib.hid hcont
        have hl2 := Z2.out.lt
        have hl3 := Z3.out.lt
        clear q hcont
        go_wp2_with fail
        have H4 := Lib.hid ((((Blk.new w2 63 #[.int .i64 CL, .int .i64 NU, .bool true, .int .i64 M, .int .i64 SZ]).alloc (.cells #[.int .i64 0, .int .i64 0] 29)).alloc (.cells #[.int .i64 CL, .int .i64 NU, .bool true, .slice none 0 0, .slice none 0 0] 26)))
        have N4 : Hid (Blk (((w2.alloc (.cells #[.int .i64 CL, .int .i64 NU, .bool true, .int .i64 M, .int .i64 SZ] 63)).alloc (.cells #[.int .i64 0, .int .i64 0] 29)).alloc (.cells #[.int .i64 CL, .int .i64 NU, .bool true, .slice none 0 0, .slice none 0 0] 26)) (w2.heap.size + 1 + 1) 26 #[.int .i64 CL, .int .i64 NU, .bool true, .slice none 0 0, .slice none 0 0]) := by
          have := (Blk.new ((w2.alloc (.cells #[.int .i64 CL, .int .i64 NU, .bool true, .int .i64 M, .int .i64 SZ] 63)).alloc (.cells #[.int .i64 0, .int .i64 0] 29)) 26 #[.int .i64 CL, .int .i64 NU, .bool true, .slice none 0 0, .slice none 0 0])
          show Blk _ _ _ _
          simpa using this
        have Q4 := Lib.hid (bal (bal (bal BB.out (.cells #[.int .i64 CL, .int .i64 NU, .bool true, .int .i64 M, .int .i64 SZ] 63)) (.cells #[.int .i64 0, .int .i64 0] 29)) (.cells #[.int .i64 CL, .int .i64 NU, .bool true, .slice none 0 0, .slice none 0 0] 26))
        have G4 := Lib.hid (((Z2.out.alloc (.cells #[.int .i64 CL, .int .i64 NU, .bool true, .int .i64 M, .int .i64 SZ] 63)).alloc (.cells #[.int .i64 0, .int .i64 0] 29)).alloc (.cells #[.int .i64 CL, .int .i64 NU, .bool true, .slice none 0 0, .slice none 0 0] 26))
        have E4 := Lib.hid (((Z3.out.alloc (.cells #[.int .i64 CL, .int .i64 NU, .bool true, .int .i64 M, .int .i64 SZ] 63)).alloc (.cells #[.int .i64 0, .int .i64 0] 29)).alloc (.cells #[.int .i64 CL, .int .i64 NU, .bool true, .slice none 0 0, .slice none 0 0] 26))
        clear Z2 Z3 BB
        generalize ((w2.alloc (.cells #[.int .i64 CL, .int .i64 NU, .bool true, .int .i64 M, .int .i64 SZ] 63)).alloc (.cells #[.int .i64 0, .int .i64 0] 29)).alloc (.cells #[.int .i64 CL, .int .i64 NU, .bool true, .slice none 0 0, .slice none 0 0] 26) = w4 at *
        obtain ⟨GN, hGN⟩ : ∃ GN, Hid (w2.heap.size + 1 + 1 = GN) := ⟨_, rfl⟩
        rw [hGN.out] at N4 ⊢
        obtain ⟨GH, hGH⟩ : ∃ GH, Hid (w2.heap.size = GH) := ⟨_, rfl⟩
        have hg0 : w.heap.size + 1 < GH ∧ GH < GN := by have := hGH.out; have := hGN.out; omega
        obtain ⟨hgA, hgB⟩ := hg0
        rw [hGH.out] at H4 ⊢
        clear hl2 hl3 hGN hGH
        have hs4 : GN + 1 ≤ w4.heap.size := N4.out.lt
        go_loopw [12] (fun i wr => ∃ (p m : Nat) (ts : List Tree) (ka : Option Addr) (kc : Nat), i = .int .i64 p ∧ p ≤ M ∧ M - p ≤ m ∧ RK.app ts (rdKids (rdT D) m (cont.drop p) (SZ + p)) = RKM ∧ OwnN wr (GN + 1) 26 (.slice ka ts.length kc) ts ∧ ts.length ≤ p ∧
          Blk wr GN 26 #[.int .i64 CL, .int .i64 NU, .bool true, .slice none 0 0, .slice ka ts.length kc] ∧ Blk wr GH 63 #[.int .i64 CL, .int .i64 NU, .bool true, .int .i64 M, .int .i64 SZ] ∧
          Blk wr w.heap.size 26 #[.int .i64 0, .int .i64 0, .bool false, .slice none 0 0, .slice none 0 0] ∧ Blk wr (w.heap.size + 1) 29 #[.int .i64 0, .int .i64 0] ∧ Below w.heap.size w wr) (fun i _ => M - (intOf i).toNat)
        case atStart => exact ⟨0, M, [], none, 0, rfl, Nat.zero_le _, by omega, by rw [app_nil, List.drop_zero, Nat.add_zero]; exact hRK.out, OwnN.nil_ _ _ _, Nat.le_refl _, N4.out, H4.out, G4.out, E4.out, Q4.out⟩
        case round =>
          obtain ⟨p, m, ts, ka, kc, rfl, hp, hm, hAp, hOw, htp, hN, hH, hG, hE, hQ⟩ := hrel
          have hka := row_lt hOw
          have AP := Lib.hid hAp
          have OW := Lib.hid hOw
          have BN := Lib.hid hN
          have BH := Lib.hid hH
          have BG := Lib.hid hG
          have BE := Lib.hid hE
          have Q := Lib.hid hQ
          have KA := Lib.hid hka.2
          clear hAp hOw hN hH hG hE hQ hka N4 H4 G4 E4 Q4 hs4
          by_cases hlt : p < M
          · obtain ⟨b, off, _, rfl, hb, _⟩ := HC.out.at_ (i := 0) (by omega)
            have hcM := HC.out.2.1
            have hcm2 := HC.out.2.2.1
            have HD := Lib.hid (bs_drop HC.out (i := p) (by omega))
            rw [if_neg (by omega)] at HD
            have HI := Lib.hid (IH.out wr _ _ _ _ (by omega) (HD.out.below Q.out))
            have hlim := hLIM.out p
            have hne : cont.drop p ≠ [] := by
              intro h
              have h1 := congrArg List.length h
              have := hM.out
              simp at h1
              omega
            obtain ⟨m, rfl⟩ : ∃ m', m = m' + 1 := ⟨m - 1, by omega⟩
            have hlt' : (p : Int) < M := by omega
            have hp0 : (0 : Int) ≤ p := by omega
            have hpc : (p : Int) ≤ c1 := by omega
            have hMc : (M : Int) ≤ c1 := by omega
            have hle : (p : Int) ≤ M := by omega
            rcases hr : rdT D (cont.drop p) with ⟨t, s⟩ | ⟨c', o⟩
            · rw [hr] at hlim HI
              obtain ⟨hs1, hs2, _, _⟩ := hlim
              have hstep := rdKids_ok_step (m := m) (p := SZ + p) hne hr
              have AP2 := AP.out
              rw [hstep, app_cons, List.drop_drop, Nat.add_assoc] at AP2
              have hsM : p + s ≤ M := by have := hM.out; rw [List.length_drop] at hs1; omega
              have AP3 := Lib.hid AP2
              clear hstep hne hr AP2 AP hs1
              unfold ReadPost erV at HI
              simp only [Nat.zero_add] at HI
              obtain ⟨i0, hi, hz0, hz1, hz2⟩ := info_parts5 info_node
              have hsb : (s : Int) ≤ 100000 := by omega
              go_wp2_with fail
              refine HI.out.mono ?_
              rintro e w5 ⟨cs, rfl, hnd, q⟩
              cases t with
              | node c' n' k' l' ks' =>
              obtain ⟨a', m', d', ka', kn', kc', rfl, _⟩ := hnd.parts
              have N5 := Lib.hid (BN.out.below q BN.out.lt)
              have H5 := Lib.hid (BH.out.below q BH.out.lt)
              have G5 := Lib.hid (BG.out.below q BG.out.lt)
              have E5 := Lib.hid (BE.out.below q BE.out.lt)
              have Q5 := Lib.hid (bthen Q.out q)
              have hsz := q.size
              have hNs := BN.out.lt
              have BW := Lib.hid (bal (bal (bal (Below.refl _ w5) (.cells #[.int .i64 c', .int .i64 n', .bool k', .slice a' m' d', .slice ka' kn' kc'] 26)) (.cells #[.int .i64 0, .int .i64 0] 29)) (.cells #[.int .i64 c', .int .i64 n', .bool k', .slice a' m' d', .slice ka' kn' kc'] 26))
              obtain ⟨css, hrow, hnodes⟩ := ((OW.out.below q).below BW.out).nodes
              have ND := Lib.hid ((hnd.off (a := ka) (n := ts.length) (c := kc) (B := GN + 1) (by omega) (fun x hx => (KA.out x hx).2)).below BW.out)
              have HROW := Lib.hid hrow
              have HNS := Lib.hid hnodes
              have NB : Hid (Blk (((w5.alloc (.cells #[.int .i64 c', .int .i64 n', .bool k', .slice a' m' d', .slice ka' kn' kc'] 26)).alloc (.cells #[.int .i64 0, .int .i64 0] 29)).alloc (.cells #[.int .i64 c', .int .i64 n', .bool k', .slice a' m' d', .slice ka' kn' kc'] 26)) (w5.heap.size + 1 + 1) 26 #[.int .i64 c', .int .i64 n', .bool k', .slice a' m' d', .slice ka' kn' kc']) := by
                have := Blk.new ((w5.alloc (.cells #[.int .i64 c', .int .i64 n', .bool k', .slice a' m' d', .slice ka' kn' kc'] 26)).alloc (.cells #[.int .i64 0, .int .i64 0] 29)) 26 #[.int .i64 c', .int .i64 n', .bool k', .slice a' m' d', .slice ka' kn' kc']
                show Blk _ _ _ _
                simpa using this
              obtain ⟨n0, n1, n2, n3, n4, nl⟩ := five N5.out
              clear q hnd hrow hnodes BN BH BG BE OW HI
              go_wp2_with (at_builtin; go_must (refine wpList_append_lies _ rfl _ _ 24 rfl (GN + 1) 26 i0 zeroN 5 72 Try.underlying24 hi hz0 hz1 hz2 rfl (by decide) (.slice ka ts.length kc) ts.length (cellsN css) rfl HROW.out ⟨w5.heap.size + 1 + 1, 0, none⟩ 1 1 [.int .i64 c', .int .i64 n', .bool k', .slice a' m' d', .slice ka' kn' kc'] rfl rfl (World.news_of_block NB.out) ND.out.one.2 (by decide) ?b1 ?b2 ?b3 (w5.heap.size + 1 + 1 + 1) (by simp) ?_))
              case b1 => unfold maxLen; omega
              case b2 => omega
              case b3 => simp; omega
              intro g cap w6 hown6 hg6 hat hlt6
              have D6 : Hid (Below (GN + 1) _ w6) := row_below hg6 (fun x hx => (KA.out x hx).1) (by simp; omega)
              have O6 := Lib.hid (ownN_grown HNS.out ND.out hown6 hg6 (hat.imp id (by rintro rfl; simp)))
              have N6 := Lib.hid ((((N5.out.alloc _).alloc _).alloc _).below D6.out (by omega))
              have H6 := Lib.hid ((((H5.out.alloc _).alloc _).alloc _).below D6.out (by omega))
              have G6 := Lib.hid ((((G5.out.alloc _).alloc _).alloc _).below D6.out (by omega))
              have E6 := Lib.hid ((((E5.out.alloc _).alloc _).alloc _).below D6.out (by omega))
              have Q6 : Hid (Below w.heap.size w w6) := (bal (bal (bal Q5.out _) _) _).trans (D6.out.mono (by omega))
              clear hown6 hg6 hat D6 HROW HNS ND NB N5 H5 G5 E5 Q5 BW n0 n1 n2 n3 n4 nl
              obtain ⟨n0, n1, n2, n3, n4, nl⟩ := five N6.out
              have nf := fun i => N6.out.frozen i
              go_wp2_with fail
              go_roundw
              case rel =>
                have hlen : (ts ++ [Tree.node c' n' k' l' ks']).length = ts.length + 1 := by simp
                refine ⟨p + s, m, ts ++ [.node c' n' k' l' ks'], some ⟨g, 0, none⟩, cap, by go_num, hsM, by omega, AP3.out, ?_, by rw [hlen]; omega, ?_, H6.out.far (by simp; omega) _, G6.out.far (by simp; omega) _, E6.out.far (by simp; omega) _, Q6.out.setCell (by simp; omega) _⟩
                · rw [hlen]
                  exact O6.out.far (p := ⟨GN, 4, none⟩) (by simp) _
                · rw [hlen]
                  exact N6.out.set_ 4 _
              case measure => simp [intOf]; omega
            · rw [hr] at hlim HI
              obtain ⟨ho1, hc1⟩ := hlim
              have hstep := rdKids_err_step (m := m) (p := SZ + p) hne hr
              have AP2 := AP.out
              rw [hstep] at AP2
              have hres := HER.out _ _ AP2.symm
              have hob : (o : Int) ≤ 100000 := by have := hM.out; rw [List.length_drop] at ho1; omega
              have hC : ((c' : Int) == 0) = false := by simp; omega
              have hC2 : ((c' : Int) != 0) = true := by simp; omega
              subst hres
              clear hstep hne hr AP2 AP ho1
              unfold ReadPost erV zeroN at HI
              simp only [Nat.zero_add] at HI
              go_wp2_with fail
              refine HI.out.mono ?_
              rintro e w5 ⟨rfl, q⟩
              have H5 := Lib.hid (((BH.out.below q BH.out.lt).alloc (.cells #[.int .i64 0, .int .i64 0, .bool false, .slice none 0 0, .slice none 0 0] 26)).alloc (.cells #[.int .i64 c', .int .i64 o] 29))
              have G5 := Lib.hid (((BG.out.below q BG.out.lt).alloc (.cells #[.int .i64 0, .int .i64 0, .bool false, .slice none 0 0, .slice none 0 0] 26)).alloc (.cells #[.int .i64 c', .int .i64 o] 29))
              have E5 := Lib.hid (((BE.out.below q BE.out.lt).alloc (.cells #[.int .i64 0, .int .i64 0, .bool false, .slice none 0 0, .slice none 0 0] 26)).alloc (.cells #[.int .i64 c', .int .i64 o] 29))
              have R5 : Hid (Blk ((w5.alloc (.cells #[.int .i64 0, .int .i64 0, .bool false, .slice none 0 0, .slice none 0 0] 26)).alloc (.cells #[.int .i64 c', .int .i64 o] 29)) (w5.heap.size + 1) 29 #[.int .i64 c', .int .i64 o]) := by
                have := Blk.new (w5.alloc (.cells #[.int .i64 0, .int .i64 0, .bool false, .slice none 0 0, .slice none 0 0] 26)) 29 #[.int .i64 c', .int .i64 o]
                show Blk _ _ _ _
                simpa using this
              have Q5 := Lib.hid (bal (bal (bthen Q.out q) (.cells #[.int .i64 0, .int .i64 0, .bool false, .slice none 0 0, .slice none 0 0] 26)) (.cells #[.int .i64 c', .int .i64 o] 29))
              have hG1 := BE.out.lt
              have hsz := q.size
              clear q BN BH BG BE OW HI
              go_wp2_with fail
              generalize (w5.alloc (.cells #[.int .i64 0, .int .i64 0, .bool false, .slice none 0 0, .slice none 0 0] 26)).alloc (.cells #[.int .i64 c', .int .i64 o] 29) = w6 at *
              obtain ⟨RB, hRB⟩ : ∃ RB, Hid (w5.heap.size + 1 = RB) := ⟨_, rfl⟩
              have hRB2 : w.heap.size + 1 < RB := by have := hRB.out; omega
              rw [hRB.out] at R5 ⊢
              obtain ⟨h0, h1, h2, h3, h4, hl⟩ := five H5.out
              obtain ⟨z20, z21, z22, z23, z24, hl2⟩ := five G5.out
              have z30 := E5.out.cell 0
              have z31 := E5.out.cell 1
              have r0 := R5.out.cell 0
              have r1 := R5.out.cell 1
              have rl := R5.out.lt
              have f2 := fun i => G5.out.frozen i
              have f3 := fun i => E5.out.frozen i
              have hl3 := E5.out.lt
              simp only [List.getElem?_toArray, List.getElem?_cons_zero, List.getElem?_cons_succ] at z30 z31 r0 r1
              have hne1 : GH ≠ w.heap.size := by omega
              have hne2 : GH ≠ w.heap.size + 1 := by omega
              have hne3 : RB ≠ w.heap.size := by omega
              have hne4 : RB ≠ w.heap.size + 1 := by omega
              clear hsz hG1
              go_region
              go_wp2_with fail
              refine bodyPost_ret (v := .tuple #[zeroN, .int .i64 0, .agg #[.int .i64 c', .int .i64 (SZ + p + o)]]) (by simp [results, Try.results40, go_sem, zeroN, z20, z21, z22, z23, z24, z30, z31]) rfl ?_
              exact ⟨by rw [Nat.zero_add]; rfl, by repeat (first | with_reducible exact Q5.out | with_reducible refine bal ?_ _ | with_reducible refine below_at ?_ _ _ | with_reducible refine below_at1 ?_ _ _ | with_reducible refine below_draw ?_)⟩
          · have hpM : p = M := by omega
            subst hpM
            have AP2 := AP.out
            have hdn : cont.drop p = [] := List.drop_of_length_le (by have := hM.out; omega)
            rw [hdn, rdKids_nil] at AP2
            have hres := HOK.out ts (by rw [← AP2]; simp [RK.app])
            subst hres
            clear AP AP2 hdn
            go_wp2_with fail
            obtain ⟨n0, n1, n2, n3, n4, nl⟩ := five BN.out
            obtain ⟨h0, h1, h2, h3, h4, hl⟩ := five BH.out
            obtain ⟨z20, z21, z22, z23, z24, hl2⟩ := five BG.out
            have z30 := BE.out.cell 0
            have z31 := BE.out.cell 1
            have f2 := fun i => BG.out.frozen i
            have f3 := fun i => BE.out.frozen i
            have hl3 := BE.out.lt
            simp only [List.getElem?_toArray, List.getElem?_cons_zero, List.getElem?_cons_succ] at z30 z31
            have hne1 : GN ≠ w.heap.size := by omega
            have hne2 : GN ≠ w.heap.size + 1 := by omega
            have hne3 : GH ≠ w.heap.size := by omega
            have hne4 : GH ≠ w.heap.size + 1 := by omega
            go_region
            go_wp2_with fail
            refine bodyPost_ret (v := .tuple #[.agg #[.int .i64 CL, .int .i64 NU, .bool true, .slice none 0 0, .slice ka ts.length kc], .int .i64 (SZ + p), .agg #[.int .i64 0, .int .i64 0]]) (by simp [results, Try.results40, go_sem, z20, z21, z22, z23, z24, z30, z31]) rfl ?_
            have hNd : NdCs wr (fun b => w.heap.size + 2 ≤ b) [.int .i64 CL, .int .i64 NU, .bool true, .slice none 0 0, .slice ka ts.length kc] (.node CL NU true [] ts) :=
              ⟨none, 0, 0, ka, _, kc, rfl, BsR.nil_ _ _, OW.out.kds.weak fun b _ hb => by omega⟩
            have hS := read_stored (B := w.heap.size) (u0 := .int .i64 CL) (u1 := .int .i64 NU) (u2 := .bool true) (u3 := .slice none 0 0) (u4 := .slice ka ts.length kc) (u5 := .int .i64 0) (u6 := .int .i64 0) hNd Q.out
            exact ⟨_, by rw [Nat.zero_add]; rfl, hS.1.drew, below_drewN hS.2 1⟩
    · rw [rdT_bad hq]
      have he := rdNext_bad hq
      unfold RefNextFrom at HN
      rw [he] at HN
      generalize (rdNext l).h.code = C at *
      generalize (rdNext l).h.off = O at *
      unfold hdV erV noHd at HN
      simp only at HN
      have hC : ((C : Int) == 0) = false := by simp; omega
      have hC2 : ((C : Int) != 0) = true := by simp; omega
      clear hq he
      go_enter Try.func40, Try.ntmps40
      go_wp2_with fail
      refine (HN.out _ (bal (bal (Below.refl _ w) _) _)).mono ?_
      rintro e w2 ⟨a1, c1, a2, c2, rfl, _, _, q⟩
      have Z2 := Lib.hid (((Blk.new w 26 #[.int .i64 0, .int .i64 0, .bool false, .slice none 0 0, .slice none 0 0]).alloc (.cells #[.int .i64 0, .int .i64 0] 29)).below q (by simp; omega))
      have Z3 : Hid (Blk w2 (w.heap.size + 1) 29 #[.int .i64 0, .int .i64 0]) := by show Blk _ _ _ _; simpa using (((Blk.new (w.alloc (.cells #[.int .i64 0, .int .i64 0, .bool false, .slice none 0 0, .slice none 0 0] 26)) 29 #[.int .i64 0, .int .i64 0])).below q (by simp))
      have BB := Lib.hid (bthen (bal (bal (Below.refl _ w) _) _) q)
      obtain ⟨z20, z21, z22, z23, z24, hl2⟩ := five Z2.out
      have z30 := Z3.out.cell 0
      have z31 := Z3.out.cell 1
      have hl3 := Z3.out.lt
      have f2 := fun i => Z2.out.frozen i
      have f3 := fun i => Z3.out.frozen i
      simp only [List.getElem?_toArray, List.getElem?_cons_zero, List.getElem?_cons_succ] at z30 z31
      clear q
      go_wp2_with fail
      go_region
      go_wp2_with fail
      exact bodyPost_ret (v := .tuple #[zeroN, .int .i64 0, .agg #[.int .i64 C, .int .i64 O]]) (by simp [results, Try.results40, go_sem, z20, z21, z22, z23, z24, z30, z31, hl2, hl3, zeroN]) rfl ⟨by rw [Nat.zero_add]; rfl, by repeat (first | with_reducible exact BB.out | with_reducible refine bal ?_ _ | with_reducible refine below_at ?_ _ _ | with_reducible refine below_at1 ?_ _ _ | with_reducible refine below_draw ?_)⟩
end Go.Proofs.Ytgccjdhkpgmnoaa
