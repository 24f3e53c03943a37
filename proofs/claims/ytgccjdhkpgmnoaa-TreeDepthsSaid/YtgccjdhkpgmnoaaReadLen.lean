/-
  Contract of the program's ReadLength.
-/
import Derived.Test.YtgccjdhkpgmnoaaCur2
import Derived.Test.YtgccjdhkpgmnoaaLength
import Derived.Test.YtgccjdhkpgmnoaaRetLen
import Derived.WalkMore
import Derived.Deep.LoopGhost
import Derived.RegionTactic
import Derived.ChangeAlike
namespace Go.Proofs.Ytgccjdhkpgmnoaa
open Go.RowKit

theorem or8i {m : Nat} {x : UInt8} (h : m < 16777216) : bits BinOp.or IntKind.i64 ((m : Int) * 256) (x.toNat : Int) = ((m * 256 + x.toNat : Nat) : Int) := by
  have hx := x.toNat_lt
  have e : m * 256 ||| x.toNat = m * 256 + x.toNat := by
    rw [show m * 256 = 2 ^ 8 * m from by omega, Nat.two_pow_add_eq_or_of_lt (by omega)]
  rw [show (m : Int) * 256 = ((m * 256 : Nat) : Int) from by omega]
  show IntKind.i64.wrap ((BitVec.ofInt 64 ((m * 256 : Nat) : Int) ||| BitVec.ofInt 64 (x.toNat : Int)).toNat : Int) = _
  rw [BitVec.toNat_or, ofInt_u64 _ (by omega), ofInt_u64 _ (by omega), e, IntKind.wrap_i64]
  omega

/-- what holds at the head of each round: k octets are read -/
def RLRel (w : World) (l : List UInt8) (g E : Nat) (ac : Option Addr) (m k : Nat) (s7 s8 : Value) (wr : World) : Prop :=
  Cur wr 90 g ac (l.take m) k ∧ Blk wr E 29 #[.int .i64 4, .int .i64 0] ∧ Blk wr w.heap.size 29 #[.int .i64 0, .int .i64 0] ∧ Below w.heap.size w wr ∧
  ((k = 0 ∧ s7 = .int .i64 0 ∧ s8 = .int .i64 0) ∨ ∃ x r d, l = x :: r ∧ x.toNat = 128 + d ∧ 1 ≤ d ∧ d ≤ 4 ∧ 1 ≤ k ∧ k ≤ d ∧ s7 = .int .i64 (bnum (r.take (k - 1))) ∧ s8 = .int .i64 (d + 1 - k : Nat))

set_option maxRecDepth 100000 in
set_option maxHeartbeats 1000000 in
theorem readLength_any {w : World} {a : Option Addr} {n c : Nat} {l : List UInt8} (hx : Bs w a n c l) :
    Calls Try.prog 47 #[.slice a n c] w fun e w' => e = .returned (.tuple #[.int .i64 (rdLen l).n, .int .i64 (rdLen l).size, .agg #[.int .i64 (rdLen l).code, .int .i64 (rdLen l).off]]) ∧ Below w.heap.size w w' := by
  have HX := Lib.hid hx
  have hn : n ≤ 9223372036854775807 := by have := hx.2.1; have := hx.2.2.1; unfold maxLen at this; omega
  have hnc := hx.2.1
  have hmin : min (n : Int) 5 = ((min n 5 : Nat) : Int) := by omega
  obtain ⟨m, hm⟩ : ∃ m, Hid (min n 5 = m) := ⟨_, rfl⟩
  have hm5 : m ≤ 5 := by have := hm.out; omega
  have hmn : m ≤ n := by have := hm.out; omega
  rw [hm.out] at hmin
  clear hx
  go_enter Try.func47, Try.ntmps47
  go_wp2_with fail
  go_step3
  go_wp2_with fail
  refine (new_any ((bs_take HX.out hmn).alloc _) (by omega)).mono ?_
  rintro e w1 ⟨g, ac, rfl, hc, hg, hac, hb⟩
  have HC := Lib.hid hc
  have HB := Lib.hid ((bal (Below.refl _ w) _).trans (hb.mono (by simp)))
  have hg' : Hid (w.heap.size < g) := by simp at hg; show _ < _; omega
  have R0 := Lib.hid ((Blk.new w 29 #[.int .i64 0, .int .i64 0]).below hb (by simp))
  have hac' : Hid (∀ x, ac = some x → w.heap.size < x.block) := fun x hx => by have := (hac x hx).1; simp at this; omega
  have hlt := hc.lt
  have hR := R0.out.lt
  clear hc hb hg hac
  go_wp2_with fail
  go_step3
  go_wp2_with fail
  have HR : Hid (RLRel w l g w1.heap.size ac m 0 (.int .i64 0) (.int .i64 0) (w1.alloc (Obj.cells #[.int .i64 4, .int .i64 0] 29))) :=
    ⟨HC.out.below ((Below.refl _ _).alloc (Nat.le_refl _) _), Blk.new _ _ _, R0.out.alloc _, bal HB.out _, .inl ⟨rfl, rfl, rfl⟩⟩
  have hE : w1.heap.size < (w1.alloc (Obj.cells #[.int .i64 4, .int .i64 0] 29)).heap.size := by simp
  obtain ⟨E, eE⟩ : ∃ E, w1.heap.size = E := ⟨_, rfl⟩
  rw [eE] at HR hlt hR ⊢
  clear eE hE HC HB R0
  go_loopg [7, 8] 6 (fun z s7 s8 wr => ∃ k, k + z = 6 ∧ RLRel w l g E ac m k s7 s8 wr)
  case atStart => exact ⟨0, rfl, HR.out⟩
  case round =>
    obtain ⟨k, hk, hc, hE, h0, hb, hcase⟩ := hrel
    clear HR
    have C := Lib.hid hc
    have BE := Lib.hid hE
    have B0 := Lib.hid h0
    have BB := Lib.hid hb
    clear hc hE h0 hb
    rcases hcase with ⟨rfl, rfl, rfl⟩ | ⟨x, r, d, rfl, hd, hd1, hd4, hk1, hkd, rfl, rfl⟩
    · rcases l with _ | ⟨x, r⟩
      · rw [List.take_nil] at C
        go_wp2_with fail
        refine (byte_end C.out (by simp)).mono ?_
        rintro e w2 ⟨rfl, q⟩
        have hR2 : w.heap.size < w2.heap.size := by have := B0.out.lt; have := q.size; omega
        have Z := B0.out.below q B0.out.lt
        have z0 := Z.cell 0
        have z1 := Z.cell 1
        have f0 := Z.frozen 0
        have f1 := Z.frozen 1
        simp only [List.getElem?_toArray, List.getElem?_cons_zero, List.getElem?_cons_succ] at z0 z1
        have BB2 := Lib.hid (bthen BB.out q)
        clear Z q
        go_wp2_with fail
        go_region
        go_wp2_with fail
        rw [Exit.noGoto_ret]
        exact bodyPost_ret (v := .tuple #[.int .i64 0, .int .i64 0, .agg #[.int .i64 1, .int .i64 0]]) (by simp [results, Try.results47, go_sem, hR2, z0, z1]) rfl ⟨rfl, below_draw (bal (below_pair BB2.out _ _) _)⟩
      · have hmp : 1 ≤ m := by have h1 := HX.out.len; simp only [List.length_cons] at h1; have := hm.out; omega
        have hlm : 0 < ((x :: r).take m).length := by simp; omega
        have hx0 : ((x :: r).take m)[0] = x := by simp
        have HB := Lib.hid (byte_more C.out hlm)
        rw [hx0, Nat.zero_add] at HB
        clear hx0 hlm
        have hxb := byte_bd x
        go_wp2_with fail
        refine HB.out.mono ?_
        rintro e w2 ⟨rfl, hc2, hk2⟩
        have C2 := Lib.hid hc2
        have hR2 : w.heap.size < w2.heap.size := by have := B0.out.lt; have := hk2.size; omega
        have hE2 : E < w2.heap.size := by have := BE.out.lt; have := hk2.size; omega
        have B02 := Lib.hid (B0.out.only hk2 (by have := hg'.out; omega))
        have BE2 := Lib.hid (BE.out.only hk2 (by omega))
        have BB2 := Lib.hid (below_only BB.out hk2 BB.out.size (by have := hg'.out; omega))
        clear hc2 hk2 HB C BE B0 BB
        by_cases hs : (x.toNat : Int) < 128
        · have HR := Lib.hid (rdLen_short (x := x) (r := r) (by omega))
          have HL := Lib.hid (fun w => length_ok (n := x.toNat) (by omega) w)
          have hl1 : (lenOct x.toNat).length = 1 := by rw [lenOct_short (by omega), digits_small (by omega)]; rfl
          rw [hl1] at HL
          clear hl1
          go_wp2_with fail
          refine (HL.out _).mono ?_
          rintro e w3 ⟨a3, c3, rfl, ho, q⟩
          have C3 := Lib.hid ((C2.out.below ((Below.refl _ _).alloc (Nat.le_refl _) _)).below q)
          have Z := (B02.out.alloc _).below q (by simp; omega)
          have hR3 := Z.lt
          have z0 := Z.cell 0
          have z1 := Z.cell 1
          have f0 := Z.frozen 0
          have f1 := Z.frozen 1
          simp only [List.getElem?_toArray, List.getElem?_cons_zero, List.getElem?_cons_succ] at z0 z1
          have BB3 := Lib.hid (bthen (bal BB2.out _) q)
          clear Z q ho HL
          go_wp2_with (go_at_call 54; go_must (refine (pos_any C3.out).mono ?_); rintro e w4 ⟨rfl, rfl⟩)
          rw [Exit.noGoto_ret]
          exact bodyPost_ret (v := .tuple #[.int .i64 x.toNat, .int .i64 1, .agg #[.int .i64 0, .int .i64 0]]) (by simp [results, Try.results47, go_sem, z0, z1]) rfl ⟨ret_rl HR.out, below_pair BB3.out _ _⟩
        · by_cases hw : x.toNat = 128 ∨ 132 < x.toNat
          · have HR := Lib.hid (rdLen_bad (x := x) (r := r) hw)
            have z0 := B02.out.cell 0
            have z1 := B02.out.cell 1
            have f0 := B02.out.frozen 0
            have f1 := B02.out.frozen 1
            have e0 := BE2.out.cell 0
            have e1 := BE2.out.cell 1
            simp only [List.getElem?_toArray, List.getElem?_cons_zero, List.getElem?_cons_succ] at z0 z1 e0 e1
            rcases hw with hw | hw
            · have hx8 : ((x.toNat : Int) == 128) = true := by simp; omega
              clear hw
              go_wp2_with fail
              go_region
              go_wp2_with fail
              rw [Exit.noGoto_ret]
              exact bodyPost_ret (v := .tuple #[.int .i64 0, .int .i64 0, .agg #[.int .i64 4, .int .i64 0]]) (by simp [results, Try.results47, go_sem, hR2, z0, z1]) rfl ⟨ret_rl HR.out, below_draw (bal (below_pair BB2.out _ _) _)⟩
            · have hx8 : ((x.toNat : Int) == 128) = false := by simp; omega
              have hx9 : 132 < (x.toNat : Int) := by omega
              clear hw
              go_wp2_with fail
              go_region
              go_wp2_with fail
              rw [Exit.noGoto_ret]
              exact bodyPost_ret (v := .tuple #[.int .i64 0, .int .i64 0, .agg #[.int .i64 4, .int .i64 0]]) (by simp [results, Try.results47, go_sem, hR2, z0, z1]) rfl ⟨ret_rl HR.out, below_draw (bal (below_pair BB2.out _ _) _)⟩
          · have hx8 : ((x.toNat : Int) == 128) = false := by simp; omega
            have hx9 : (x.toNat : Int) ≤ 132 := by omega
            have hx10 : 128 < (x.toNat : Int) := by omega
            clear hw
            go_wp2_with fail
            go_roundg 5
            case rel => exact ⟨1, rfl, C2.out.below ((Below.refl _ _).alloc (Nat.le_refl _) _), BE2.out.alloc _, B02.out.alloc _, bal BB2.out _, .inr ⟨x, r, x.toNat - 128, rfl, by omega, by omega, by omega, Nat.le_refl _, by omega, rfl, by rw [show ((x.toNat - 128 + 1 - 1 : Nat) : Int) = x.toNat - 128 from by omega]⟩⟩
            case measure => omega
    · obtain ⟨j, rfl⟩ : ∃ j, k = j + 1 := ⟨k - 1, by omega⟩
      obtain ⟨B, hB⟩ : ∃ B, Hid (bnum (r.take j) = B) := ⟨_, rfl⟩
      have hB1 : B < 16777216 := by rw [← hB.out]; exact bnum_take_small (by omega)
      obtain ⟨L, hL⟩ : ∃ L, Hid (d - j = L) := ⟨_, rfl⟩
      have hL1 : 0 < L := by have := hL.out; omega
      rw [show j + 1 - 1 = j from rfl, hB.out, show d + 1 - (j + 1) = L from by have := hL.out; omega]
      have hl0 := HX.out.len
      simp only [List.length_cons] at hl0
      by_cases hkm : j + 1 < m
      · have hjr : j < r.length := by omega
        have hjm : j + 1 < ((x :: r).take m).length := by simp; omega
        have hx0 : ((x :: r).take m)[j + 1] = r[j] := by simp
        have HB := Lib.hid (byte_more C.out hjm)
        rw [hx0] at HB
        have HT := Lib.hid (bnum_take r hjr)
        clear hx0 hjm hl0
        obtain ⟨y, hy⟩ : ∃ y, r[j] = y := ⟨_, rfl⟩
        rw [hy] at HB HT
        rw [hB.out] at HT
        clear hy
        have hyb := byte_bd y
        have hor := or8i (m := B) (x := y) hB1
        obtain ⟨N, hN⟩ : ∃ N, Hid (B * 256 + y.toNat = N) := ⟨_, rfl⟩
        rw [hN.out] at hor HT
        have hB2 : (B : Int) < 16777216 := by omega
        go_wp2_with fail
        refine HB.out.mono ?_
        rintro e w2 ⟨rfl, hc2, hk2⟩
        have C2 := Lib.hid hc2
        have hR2 : w.heap.size < w2.heap.size := by have := B0.out.lt; have := hk2.size; omega
        have hE2 : E < w2.heap.size := by have := BE.out.lt; have := hk2.size; omega
        have B02 := Lib.hid (B0.out.only hk2 (by have := hg'.out; omega))
        have BE2 := Lib.hid (BE.out.only hk2 (by omega))
        have BB2 := Lib.hid (below_only BB.out hk2 BB.out.size (by have := hg'.out; omega))
        clear hc2 hk2 HB C BE B0 BB
        by_cases hL2 : L = 1
        · subst hL2
          have hdj : Hid (d = j + 1) := by have := hL.out; show _ = _; omega
          have HR := Lib.hid (rdLen_long (x := x) (r := r) hd hd1 hd4)
          rw [if_neg (by have := hdj.out; omega), hdj.out, HT.out] at HR
          have HC2 := Lib.hid (C2.out.below ((Below.refl _ w2).alloc (Nat.le_refl _) (Obj.cells #[.int .i64 0, .int .i64 0] 29)))
          by_cases hNM : N ≤ 2147483647
          · have HL := Lib.hid (fun w => length_ok (n := N) hNM w)
            obtain ⟨T, hT⟩ : ∃ T, Hid ((lenOct N).length = T) := ⟨_, rfl⟩
            have hTb := lenOct_bd hNM
            rw [hT.out] at HL HR hTb
            go_wp2_with fail
            refine (HL.out _).mono ?_
            rintro e w3 ⟨a3, c3, rfl, ho, q⟩
            have C3 := Lib.hid (HC2.out.below q)
            have Z := (B02.out.alloc _).below q (by simp; omega)
            have ZE := (BE2.out.alloc _).below q (by simp; omega)
            have hR3 := Z.lt
            have hE3 := ZE.lt
            have z0 := Z.cell 0
            have z1 := Z.cell 1
            have f0 := Z.frozen 0
            have f1 := Z.frozen 1
            have e0 := ZE.cell 0
            have e1 := ZE.cell 1
            simp only [List.getElem?_toArray, List.getElem?_cons_zero, List.getElem?_cons_succ] at z0 z1 e0 e1
            have BB3 := Lib.hid (bthen (bal BB2.out _) q)
            clear Z ZE q ho HL
            obtain ⟨P, hP⟩ : ∃ P, Hid (j + 1 + 1 = P) := ⟨_, rfl⟩
            have hPb : (P : Int) ≤ 5 := by have := hP.out; omega
            have hTb2 : (T : Int) ≤ 5 := by omega
            rw [hP.out] at C3 HR
            clear hTb hk hL1 hkm hjr hk1 hkd hd hd1 hd4
            by_cases hTj : T = P
            · rw [if_pos ⟨hNM, hTj⟩] at HR
              have HNM := Lib.hid hNM
              clear hNM
              subst hTj
              go_wp2_with fail
              refine (pos_any C3.out).mono ?_
              rintro e w4 ⟨rfl, rfl⟩
              go_wp2_with fail
              refine (pos_any C3.out).mono ?_
              rintro e w4 ⟨rfl, rfl⟩
              go_wp2_with fail
              rw [Exit.noGoto_ret]
              exact bodyPost_ret (v := .tuple #[.int .i64 N, .int .i64 T, .agg #[.int .i64 0, .int .i64 0]]) (by simp [results, Try.results47, go_sem, z0, z1]) rfl ⟨ret_rl HR.out, below_pair BB3.out _ _⟩
            · rw [if_neg (fun h => hTj h.2)] at HR
              have hTj2 : ((T : Int) == (P : Int)) = false := by simp; omega
              have hTj3 : ((T : Int) != (P : Int)) = true := by simp; omega
              clear hTj
              go_wp2_with fail
              refine (pos_any C3.out).mono ?_
              rintro e w4 ⟨rfl, rfl⟩
              go_wp2_with fail
              go_region
              go_wp2_with fail
              rw [Exit.noGoto_ret]
              exact bodyPost_ret (v := .tuple #[.int .i64 0, .int .i64 0, .agg #[.int .i64 4, .int .i64 0]]) (by simp [results, Try.results47, go_sem, z0, z1]) rfl ⟨ret_rl HR.out, below_draw (below_pair BB3.out _ _)⟩
          · rw [if_neg (by omega)] at HR
            have HL := Lib.hid (fun w => length_bad (n := (N : Int)) (.inr (by omega)) w)
            have z0 := B02.out.cell 0
            have z1 := B02.out.cell 1
            have f0 := B02.out.frozen 0
            have f1 := B02.out.frozen 1
            have e0 := BE2.out.cell 0
            have e1 := BE2.out.cell 1
            simp only [List.getElem?_toArray, List.getElem?_cons_zero, List.getElem?_cons_succ] at z0 z1 e0 e1
            go_wp2_with fail
            refine (HL.out _).mono ?_
            rintro e w3 ⟨rfl, rfl⟩
            go_wp2_with fail
            go_region
            go_wp2_with fail
            rw [Exit.noGoto_ret]
            exact bodyPost_ret (v := .tuple #[.int .i64 0, .int .i64 0, .agg #[.int .i64 4, .int .i64 0]]) (by simp [results, Try.results47, go_sem, hR2, z0, z1]) rfl ⟨ret_rl HR.out, below_draw (bal (below_pair BB2.out _ _) _)⟩
        · have hL3 : ((L : Int) - 1 == 0) = false := by simp; omega
          have hL4 : (L : Int) ≤ 4 := by have := hL.out; omega
          have hL5 : (2 : Int) ≤ L := by omega
          clear hL2
          go_wp2_with fail
          go_roundg (4 - j)
          case rel => exact ⟨j + 2, by omega, C2.out.below ((Below.refl _ _).alloc (Nat.le_refl _) _), BE2.out.alloc _, B02.out.alloc _, bal BB2.out _, .inr ⟨x, r, d, rfl, hd, hd1, hd4, by omega, by have := hL.out; omega, by rw [show j + 2 - 1 = j + 1 from rfl, HT.out], by rw [show ((d + 1 - (j + 2) : Nat) : Int) = L - 1 from by have := hL.out; omega]⟩⟩
          case measure => omega
      · have hlen : ((x :: r).take m).length = r.length + 1 := by have := hm.out; simp; omega
        have HB := Lib.hid (byte_end C.out (by rw [hlen]; have := hm.out; omega))
        rw [hlen] at HB
        have HR := Lib.hid (rdLen_long (x := x) (r := r) hd hd1 hd4)
        rw [if_pos (by have := hm.out; omega)] at HR
        clear hlen hl0
        go_wp2_with fail
        refine HB.out.mono ?_
        rintro e w2 ⟨rfl, q⟩
        have hR2 : w.heap.size < w2.heap.size := by have := B0.out.lt; have := q.size; omega
        have Z := B0.out.below q B0.out.lt
        have z0 := Z.cell 0
        have z1 := Z.cell 1
        have f0 := Z.frozen 0
        have f1 := Z.frozen 1
        simp only [List.getElem?_toArray, List.getElem?_cons_zero, List.getElem?_cons_succ] at z0 z1
        have BB2 := Lib.hid (bthen BB.out q)
        clear Z q HB
        go_wp2_with fail
        go_region
        go_wp2_with fail
        rw [Exit.noGoto_ret]
        exact bodyPost_ret (v := .tuple #[.int .i64 0, .int .i64 0, .agg #[.int .i64 1, .int .i64 (r.length + 1 : Nat)]]) (by simp [results, Try.results47, go_sem, hR2, z0, z1]) rfl ⟨ret_rl HR.out, below_draw (bal (below_pair BB2.out _ _) _)⟩
end Go.Proofs.Ytgccjdhkpgmnoaa
