/-
  Lemmas and contracts of functions, for the proofs of this seat's laws; nothing of a law.
-/
import Derived.WalkMore
import Derived.Deep.LoopGhost
import Derived.RegionTactic
import Derived.ChangeAlike
import Derived.Deep.Cut
import Derived.Test.YtkkomaohcijhnaaChecked
import Derived.WalkKit
import Derived.ProofKit
import Derived.Below
import Derived.OwnWalk
import Derived.Outline
import Derived.Deep.QuietTactic
import Derived.Lib.Hide
import Derived.BigQuiet
import Derived.LoopTactic
import Derived.Deep.DeepMust
import Derived.WalkLawsBesides
import Derived.Deep.RegionHeld3
import Derived.BigRegion
import Derived.Test.YtkkomaohcijhnaaPk01
namespace Go.Proofs.Ytkkomaohcijhnaa
open Go.RowKit
set_option maxRecDepth 100000
theorem or8i {m : Nat} {x : UInt8} (h : m < 16777216) : bits BinOp.or IntKind.i64 ((m : Int) * 256) (x.toNat : Int) = ((m * 256 + x.toNat : Nat) : Int) := by
  have hx := x.toNat_lt
  have e : m * 256 ||| x.toNat = m * 256 + x.toNat := by
    rw [show m * 256 = 2 ^ 8 * m from by omega, Nat.two_pow_add_eq_or_of_lt (by omega)]
  rw [show (m : Int) * 256 = ((m * 256 : Nat) : Int) from by omega]
  show IntKind.i64.wrap ((BitVec.ofInt 64 ((m * 256 : Nat) : Int) ||| BitVec.ofInt 64 (x.toNat : Int)).toNat : Int) = _
  rw [BitVec.toNat_or, ofInt_u64 _ (by omega), ofInt_u64 _ (by omega), e, IntKind.wrap_i64]
  omega
def RLRel (w : World) (l : List UInt8) (g E : Nat) (ac : Option Addr) (m k : Nat) (s7 s8 : Value) (wr : World) : Prop :=
  Cur wr 126 g ac (l.take m) k ∧ Blk wr E 28 #[.int .i64 4, .int .i64 0] ∧ Blk wr w.heap.size 28 #[.int .i64 0, .int .i64 0] ∧ Below w.heap.size w wr ∧
  ((k = 0 ∧ s7 = .int .i64 0 ∧ s8 = .int .i64 0) ∨ ∃ x r d, l = x :: r ∧ x.toNat = 128 + d ∧ 1 ≤ d ∧ d ≤ 4 ∧ 1 ≤ k ∧ k ≤ d ∧ s7 = .int .i64 (bnum (r.take (k - 1))) ∧ s8 = .int .i64 (d + 1 - k : Nat))
set_option maxRecDepth 100000 in
set_option maxHeartbeats 1000000 in
theorem readLength_any {w : World} {a : Option Addr} {n c : Nat} {l : List UInt8} (hx : Bs w a n c l) :
    Calls Try.prog 62 #[.slice a n c] w fun e w' => e = .returned (.tuple #[.int .i64 (rdLen l).n, .int .i64 (rdLen l).size, .agg #[.int .i64 (rdLen l).code, .int .i64 (rdLen l).off]]) ∧ Below w.heap.size w w' := by
  have HX := Lib.hid hx
  have hn : n ≤ 9223372036854775807 := by have := hx.2.1; have := hx.2.2.1; unfold maxLen at this; omega
  have hnc := hx.2.1
  have hmin : min (n : Int) 5 = ((min n 5 : Nat) : Int) := by omega
  obtain ⟨m, hm⟩ : ∃ m, Hid (min n 5 = m) := ⟨_, rfl⟩
  have hm5 : m ≤ 5 := by have := hm.out; omega
  have hmn : m ≤ n := by have := hm.out; omega
  rw [hm.out] at hmin
  clear hx
  go_enter Try.func62, Try.ntmps62
  go_wp2_with fail
  go_step3
  go_wp2_with fail
  refine (new_any ((bs_take HX.out hmn).alloc _) (by omega)).mono ?_
  rintro e w1 ⟨g, ac, rfl, hc, hg, hac, hb⟩
  have HC := Lib.hid hc
  have HB := Lib.hid ((bal (Below.refl _ w) _).trans (hb.mono (by simp)))
  have hg' : Hid (w.heap.size < g) := by simp at hg; show _ < _; omega
  have R0 := Lib.hid ((Blk.new w 28 #[.int .i64 0, .int .i64 0]).below hb (by simp))
  have hac' : Hid (∀ x, ac = some x → w.heap.size < x.block) := fun x hx => by have := (hac x hx).1; simp at this; omega
  have hlt := hc.lt
  have hR := R0.out.lt
  clear hc hb hg hac
  go_wp2_with fail
  go_step3
  go_wp2_with fail
  have HR : Hid (RLRel w l g w1.heap.size ac m 0 (.int .i64 0) (.int .i64 0) (w1.alloc (Obj.cells #[.int .i64 4, .int .i64 0] 28))) :=
    ⟨HC.out.below ((Below.refl _ _).alloc (Nat.le_refl _) _), Blk.new _ _ _, R0.out.alloc _, bal HB.out _, .inl ⟨rfl, rfl, rfl⟩⟩
  have hE : w1.heap.size < (w1.alloc (Obj.cells #[.int .i64 4, .int .i64 0] 28)).heap.size := by simp
  obtain ⟨E, eE⟩ : ∃ E, w1.heap.size = E := ⟨_, rfl⟩
  rw [eE] at HR hlt hR ⊢
  clear eE hE HC HB R0
  go_loopg [7, 8] 6 (fun z s7 s8 wr => ∃ k, k + z = 6 ∧ RLRel w l g E ac m k s7 s8 wr)
  case atStart => exact ⟨0, rfl, HR.out⟩
  case round =>
    obtain ⟨k, hk, hc, hE, h0, hb, hcase⟩ := hrel
    clear HR
    have C := Lib.hid hc
    have BE := Lib.hid hE
    have B0 := Lib.hid h0
    have BB := Lib.hid hb
    clear hc hE h0 hb
    rcases hcase with ⟨rfl, rfl, rfl⟩ | ⟨x, r, d, rfl, hd, hd1, hd4, hk1, hkd, rfl, rfl⟩
    · rcases l with _ | ⟨x, r⟩
      · rw [List.take_nil] at C
        go_wp2_with fail
        refine (byte_end C.out (by simp)).mono ?_
        rintro e w2 ⟨rfl, q⟩
        have hR2 : w.heap.size < w2.heap.size := by have := B0.out.lt; have := q.size; omega
        have Z := B0.out.below q B0.out.lt
        have z0 := Z.cell 0
        have z1 := Z.cell 1
        have f0 := Z.frozen 0
        have f1 := Z.frozen 1
        simp only [List.getElem?_toArray, List.getElem?_cons_zero, List.getElem?_cons_succ] at z0 z1
        have BB2 := Lib.hid (bthen BB.out q)
        clear Z q
        go_wp2_with fail
        go_region
        go_wp2_with fail
        rw [Exit.noGoto_ret]
        exact bodyPost_ret (v := .tuple #[.int .i64 0, .int .i64 0, .agg #[.int .i64 1, .int .i64 0]]) (by simp [results, Try.results62, go_sem, hR2, z0, z1]) rfl ⟨rfl, below_draw (bal (below_pair BB2.out _ _) _)⟩
      · have hmp : 1 ≤ m := by have h1 := HX.out.len; simp only [List.length_cons] at h1; have := hm.out; omega
        have hlm : 0 < ((x :: r).take m).length := by simp; omega
        have hx0 : ((x :: r).take m)[0] = x := by simp
        have HB := Lib.hid (byte_more C.out hlm)
        rw [hx0, Nat.zero_add] at HB
        clear hx0 hlm
        have hxb := byte_bd x
        go_wp2_with fail
        refine HB.out.mono ?_
        rintro e w2 ⟨rfl, hc2, hk2⟩
        have C2 := Lib.hid hc2
        have hR2 : w.heap.size < w2.heap.size := by have := B0.out.lt; have := hk2.size; omega
        have hE2 : E < w2.heap.size := by have := BE.out.lt; have := hk2.size; omega
        have B02 := Lib.hid (B0.out.only hk2 (by have := hg'.out; omega))
        have BE2 := Lib.hid (BE.out.only hk2 (by omega))
        have BB2 := Lib.hid (below_only BB.out hk2 BB.out.size (by have := hg'.out; omega))
        clear hc2 hk2 HB C BE B0 BB
        by_cases hs : (x.toNat : Int) < 128
        · have HR := Lib.hid (rdLen_short (x := x) (r := r) (by omega))
          have HL := Lib.hid (fun w => length_ok (n := x.toNat) (by omega) w)
          have hl1 : (lenOct x.toNat).length = 1 := by rw [lenOct_short (by omega), digits_small (by omega)]; rfl
          rw [hl1] at HL
          clear hl1
          go_wp2_with fail
          refine (HL.out _).mono ?_
          rintro e w3 ⟨a3, c3, rfl, ho, q⟩
          have C3 := Lib.hid ((C2.out.below ((Below.refl _ _).alloc (Nat.le_refl _) _)).below q)
          have Z := (B02.out.alloc _).below q (by simp; omega)
          have hR3 := Z.lt
          have z0 := Z.cell 0
          have z1 := Z.cell 1
          have f0 := Z.frozen 0
          have f1 := Z.frozen 1
          simp only [List.getElem?_toArray, List.getElem?_cons_zero, List.getElem?_cons_succ] at z0 z1
          have BB3 := Lib.hid (bthen (bal BB2.out _) q)
          clear Z q ho HL
          go_wp2_with (go_at_call 83; go_must (refine (pos_any C3.out).mono ?_); rintro e w4 ⟨rfl, rfl⟩)
          rw [Exit.noGoto_ret]
          exact bodyPost_ret (v := .tuple #[.int .i64 x.toNat, .int .i64 1, .agg #[.int .i64 0, .int .i64 0]]) (by simp [results, Try.results62, go_sem, z0, z1]) rfl ⟨ret_rl HR.out, below_pair BB3.out _ _⟩
        · by_cases hw : x.toNat = 128 ∨ 132 < x.toNat
          · have HR := Lib.hid (rdLen_bad (x := x) (r := r) hw)
            have z0 := B02.out.cell 0
            have z1 := B02.out.cell 1
            have f0 := B02.out.frozen 0
            have f1 := B02.out.frozen 1
            have e0 := BE2.out.cell 0
            have e1 := BE2.out.cell 1
            simp only [List.getElem?_toArray, List.getElem?_cons_zero, List.getElem?_cons_succ] at z0 z1 e0 e1
            rcases hw with hw | hw
            · have hx8 : ((x.toNat : Int) == 128) = true := by simp; omega
              clear hw
              go_wp2_with fail
              go_region
              go_wp2_with fail
              rw [Exit.noGoto_ret]
              exact bodyPost_ret (v := .tuple #[.int .i64 0, .int .i64 0, .agg #[.int .i64 4, .int .i64 0]]) (by simp [results, Try.results62, go_sem, hR2, z0, z1]) rfl ⟨ret_rl HR.out, below_draw (bal (below_pair BB2.out _ _) _)⟩
            · have hx8 : ((x.toNat : Int) == 128) = false := by simp; omega
              have hx9 : 132 < (x.toNat : Int) := by omega
              clear hw
              go_wp2_with fail
              go_region
              go_wp2_with fail
              rw [Exit.noGoto_ret]
              exact bodyPost_ret (v := .tuple #[.int .i64 0, .int .i64 0, .agg #[.int .i64 4, .int .i64 0]]) (by simp [results, Try.results62, go_sem, hR2, z0, z1]) rfl ⟨ret_rl HR.out, below_draw (bal (below_pair BB2.out _ _) _)⟩
          · have hx8 : ((x.toNat : Int) == 128) = false := by simp; omega
            have hx9 : (x.toNat : Int) ≤ 132 := by omega
            have hx10 : 128 < (x.toNat : Int) := by omega
            clear hw
            go_wp2_with fail
            go_roundg 5
            case rel => exact ⟨1, rfl, C2.out.below ((Below.refl _ _).alloc (Nat.le_refl _) _), BE2.out.alloc _, B02.out.alloc _, bal BB2.out _, .inr ⟨x, r, x.toNat - 128, rfl, by omega, by omega, by omega, Nat.le_refl _, by omega, rfl, by rw [show ((x.toNat - 128 + 1 - 1 : Nat) : Int) = x.toNat - 128 from by omega]⟩⟩
            case measure => omega
    · obtain ⟨j, rfl⟩ : ∃ j, k = j + 1 := ⟨k - 1, by omega⟩
      obtain ⟨B, hB⟩ : ∃ B, Hid (bnum (r.take j) = B) := ⟨_, rfl⟩
      have hB1 : B < 16777216 := by rw [← hB.out]; exact bnum_take_small (by omega)
      obtain ⟨L, hL⟩ : ∃ L, Hid (d - j = L) := ⟨_, rfl⟩
      have hL1 : 0 < L := by have := hL.out; omega
      rw [show j + 1 - 1 = j from rfl, hB.out, show d + 1 - (j + 1) = L from by have := hL.out; omega]
      have hl0 := HX.out.len
      simp only [List.length_cons] at hl0
      by_cases hkm : j + 1 < m
      · have hjr : j < r.length := by omega
        have hjm : j + 1 < ((x :: r).take m).length := by simp; omega
        have hx0 : ((x :: r).take m)[j + 1] = r[j] := by simp
        have HB := Lib.hid (byte_more C.out hjm)
        rw [hx0] at HB
        have HT := Lib.hid (bnum_take r hjr)
        clear hx0 hjm hl0
        obtain ⟨y, hy⟩ : ∃ y, r[j] = y := ⟨_, rfl⟩
        rw [hy] at HB HT
        rw [hB.out] at HT
        clear hy
        have hyb := byte_bd y
        have hor := or8i (m := B) (x := y) hB1
        obtain ⟨N, hN⟩ : ∃ N, Hid (B * 256 + y.toNat = N) := ⟨_, rfl⟩
        rw [hN.out] at hor HT
        have hB2 : (B : Int) < 16777216 := by omega
        go_wp2_with fail
        refine HB.out.mono ?_
        rintro e w2 ⟨rfl, hc2, hk2⟩
        have C2 := Lib.hid hc2
        have hR2 : w.heap.size < w2.heap.size := by have := B0.out.lt; have := hk2.size; omega
        have hE2 : E < w2.heap.size := by have := BE.out.lt; have := hk2.size; omega
        have B02 := Lib.hid (B0.out.only hk2 (by have := hg'.out; omega))
        have BE2 := Lib.hid (BE.out.only hk2 (by omega))
        have BB2 := Lib.hid (below_only BB.out hk2 BB.out.size (by have := hg'.out; omega))
        clear hc2 hk2 HB C BE B0 BB
        by_cases hL2 : L = 1
        · subst hL2
          have hdj : Hid (d = j + 1) := by have := hL.out; show _ = _; omega
          have HR := Lib.hid (rdLen_long (x := x) (r := r) hd hd1 hd4)
          rw [if_neg (by have := hdj.out; omega), hdj.out, HT.out] at HR
          have HC2 := Lib.hid (C2.out.below ((Below.refl _ w2).alloc (Nat.le_refl _) (Obj.cells #[.int .i64 0, .int .i64 0] 28)))
          by_cases hNM : N ≤ 2147483647
          · have HL := Lib.hid (fun w => length_ok (n := N) hNM w)
            obtain ⟨T, hT⟩ : ∃ T, Hid ((lenOct N).length = T) := ⟨_, rfl⟩
            have hTb := lenOct_bd hNM
            rw [hT.out] at HL HR hTb
            go_wp2_with fail
            refine (HL.out _).mono ?_
            rintro e w3 ⟨a3, c3, rfl, ho, q⟩
            have C3 := Lib.hid (HC2.out.below q)
            have Z := (B02.out.alloc _).below q (by simp; omega)
            have ZE := (BE2.out.alloc _).below q (by simp; omega)
            have hR3 := Z.lt
            have hE3 := ZE.lt
            have z0 := Z.cell 0
            have z1 := Z.cell 1
            have f0 := Z.frozen 0
            have f1 := Z.frozen 1
            have e0 := ZE.cell 0
            have e1 := ZE.cell 1
            simp only [List.getElem?_toArray, List.getElem?_cons_zero, List.getElem?_cons_succ] at z0 z1 e0 e1
            have BB3 := Lib.hid (bthen (bal BB2.out _) q)
            clear Z ZE q ho HL
            obtain ⟨P, hP⟩ : ∃ P, Hid (j + 1 + 1 = P) := ⟨_, rfl⟩
            have hPb : (P : Int) ≤ 5 := by have := hP.out; omega
            have hTb2 : (T : Int) ≤ 5 := by omega
            rw [hP.out] at C3 HR
            clear hTb hk hL1 hkm hjr hk1 hkd hd hd1 hd4
            by_cases hTj : T = P
            · rw [if_pos ⟨hNM, hTj⟩] at HR
              have HNM := Lib.hid hNM
              clear hNM
              subst hTj
              go_wp2_with fail
              refine (pos_any C3.out).mono ?_
              rintro e w4 ⟨rfl, rfl⟩
              go_wp2_with fail
              refine (pos_any C3.out).mono ?_
              rintro e w4 ⟨rfl, rfl⟩
              go_wp2_with fail
              rw [Exit.noGoto_ret]
              exact bodyPost_ret (v := .tuple #[.int .i64 N, .int .i64 T, .agg #[.int .i64 0, .int .i64 0]]) (by simp [results, Try.results62, go_sem, z0, z1]) rfl ⟨ret_rl HR.out, below_pair BB3.out _ _⟩
            · rw [if_neg (fun h => hTj h.2)] at HR
              have hTj2 : ((T : Int) == (P : Int)) = false := by simp; omega
              have hTj3 : ((T : Int) != (P : Int)) = true := by simp; omega
              clear hTj
              go_wp2_with fail
              refine (pos_any C3.out).mono ?_
              rintro e w4 ⟨rfl, rfl⟩
              go_wp2_with fail
              go_region
              go_wp2_with fail
              rw [Exit.noGoto_ret]
              exact bodyPost_ret (v := .tuple #[.int .i64 0, .int .i64 0, .agg #[.int .i64 4, .int .i64 0]]) (by simp [results, Try.results62, go_sem, z0, z1]) rfl ⟨ret_rl HR.out, below_draw (below_pair BB3.out _ _)⟩
          · rw [if_neg (by omega)] at HR
            have HL := Lib.hid (fun w => length_bad (n := (N : Int)) (.inr (by omega)) w)
            have z0 := B02.out.cell 0
            have z1 := B02.out.cell 1
            have f0 := B02.out.frozen 0
            have f1 := B02.out.frozen 1
            have e0 := BE2.out.cell 0
            have e1 := BE2.out.cell 1
            simp only [List.getElem?_toArray, List.getElem?_cons_zero, List.getElem?_cons_succ] at z0 z1 e0 e1
            go_wp2_with fail
            refine (HL.out _).mono ?_
            rintro e w3 ⟨rfl, rfl⟩
            go_wp2_with fail
            go_region
            go_wp2_with fail
            rw [Exit.noGoto_ret]
            exact bodyPost_ret (v := .tuple #[.int .i64 0, .int .i64 0, .agg #[.int .i64 4, .int .i64 0]]) (by simp [results, Try.results62, go_sem, hR2, z0, z1]) rfl ⟨ret_rl HR.out, below_draw (bal (below_pair BB2.out _ _) _)⟩
        · have hL3 : ((L : Int) - 1 == 0) = false := by simp; omega
          have hL4 : (L : Int) ≤ 4 := by have := hL.out; omega
          have hL5 : (2 : Int) ≤ L := by omega
          clear hL2
          go_wp2_with fail
          go_roundg (4 - j)
          case rel => exact ⟨j + 2, by omega, C2.out.below ((Below.refl _ _).alloc (Nat.le_refl _) _), BE2.out.alloc _, B02.out.alloc _, bal BB2.out _, .inr ⟨x, r, d, rfl, hd, hd1, hd4, by omega, by have := hL.out; omega, by rw [show j + 2 - 1 = j + 1 from rfl, HT.out], by rw [show ((d + 1 - (j + 2) : Nat) : Int) = L - 1 from by have := hL.out; omega]⟩⟩
          case measure => omega
      · have hlen : ((x :: r).take m).length = r.length + 1 := by have := hm.out; simp; omega
        have HB := Lib.hid (byte_end C.out (by rw [hlen]; have := hm.out; omega))
        rw [hlen] at HB
        have HR := Lib.hid (rdLen_long (x := x) (r := r) hd hd1 hd4)
        rw [if_pos (by have := hm.out; omega)] at HR
        clear hlen hl0
        go_wp2_with fail
        refine HB.out.mono ?_
        rintro e w2 ⟨rfl, q⟩
        have hR2 : w.heap.size < w2.heap.size := by have := B0.out.lt; have := q.size; omega
        have Z := B0.out.below q B0.out.lt
        have z0 := Z.cell 0
        have z1 := Z.cell 1
        have f0 := Z.frozen 0
        have f1 := Z.frozen 1
        simp only [List.getElem?_toArray, List.getElem?_cons_zero, List.getElem?_cons_succ] at z0 z1
        have BB2 := Lib.hid (bthen BB.out q)
        clear Z q HB
        go_wp2_with fail
        go_region
        go_wp2_with fail
        rw [Exit.noGoto_ret]
        exact bodyPost_ret (v := .tuple #[.int .i64 0, .int .i64 0, .agg #[.int .i64 1, .int .i64 (r.length + 1 : Nat)]]) (by simp [results, Try.results62, go_sem, hR2, z0, z1]) rfl ⟨ret_rl HR.out, below_draw (bal (below_pair BB2.out _ _) _)⟩
end Go.Proofs.Ytkkomaohcijhnaa
namespace Go.Proofs.Ytkkomaohcijhnaa
open Go.RowKit
def lenOf : Value → Nat | .slice _ n _ => n | _ => 0
theorem bs_tail {w : World} {b off n c : Nat} {x : UInt8} {l : List UInt8} (h : Bs w (some ⟨b, off, none⟩) n c (x :: l)) :
    Bs w (if c = 1 then some ⟨b, off, none⟩ else some ⟨b, off + 1, none⟩) (n - 1) (c - 1) l := by
  obtain ⟨h1, h2, h3, h4⟩ := h
  simp only [List.length_cons] at h1
  refine ⟨by omega, by omega, by omega, fun hn => ?_⟩
  rw [if_neg (by omega)]
  obtain ⟨b', off', e, hb, hc⟩ := h4 (by omega)
  injection e with e
  injection e with e1 e2
  subst e1; subst e2
  refine ⟨b, off + 1, rfl, hb, fun j hj => ?_⟩
  have := hc (j + 1) (by simp; omega)
  rw [Nat.add_assoc, Nat.add_comm 1 j]
  simpa using this
set_option maxHeartbeats 1000000 in
theorem ref_uint_any {w : World} {a : Option Addr} {n c : Nat} {l : List UInt8} (hx : Bs w a n c l) :
    Calls Try.prog 84 #[.slice a n c] w fun e w' => e = .returned (.tuple #[.int .u64 (uval l), .bool (uok l)]) ∧ w = w' := by
  go_enter Try.func84, Try.ntmps84
  go_wp2
  go_loop [0] (fun v => ∃ a' n' c' l', v = .slice a' n' c' ∧ Bs w a' n' c' l' ∧ bnum l' = bnum l ∧ n' ≤ n) (fun v => lenOf v)
  case atStart => exact ⟨a, n, c, l, rfl, hx, rfl, Nat.le_refl _⟩
  case round =>
    obtain ⟨a', n', c', l', rfl, hb, he, hle⟩ := hrel
    have HE := Lib.hid he
    have HN := Lib.hid hb.len
    clear he
    by_cases hlt : 0 < n'
    · obtain ⟨b, off, hkl, rfl, _, hc⟩ := hb.at_ hlt
      cases l' with
      | nil => simp at hkl
      | cons x l' =>
        have hc' : w.cell? ⟨b, off, none⟩ = some (.int .u8 x.toNat) := by simpa using hc
        clear hc hkl
        have HT := Lib.hid (bs_tail hb)
        have hcc := hb.2.1
        have hcm := hb.2.2.1
        unfold maxLen at hcm
        have HBS := Lib.hid hb
        clear hb
        by_cases hx0 : x = 0
        · subst hx0
          have hz : ((0 : UInt8).toNat : Int) = 0 := rfl
          rw [hz] at hc'
          clear hz
          go_wp2
          exact ⟨⟨_, _, _, l', rfl, HT.out, by rw [← bnum_zero]; exact HE.out, by omega⟩, by simp [lenOf]; omega⟩
        · have hxz : ((x.toNat : Int) == 0) = false := by
            rw [beq_eq_false_iff_ne]
            intro h
            exact hx0 (UInt8.toNat_inj.1 (by simpa using h))
          have HX0 := Lib.hid hx0
          clear hx0
          by_cases h8 : 8 < n'
          · go_wp2
            go_ret2
            have hbig : two64 ≤ bnum l := by rw [← HE.out]; exact bnum_big HX0.out (by have := HN.out; simp only [List.length_cons] at this; omega)
            exact ⟨by rw [← uval_ge hbig, ← uok_ge hbig]; rfl, rfl⟩
          · go_wp2
            go_loop [4, 5] (fun v i => ∃ k m : Nat, k ≤ n' ∧ i = .int .i64 k ∧ v = .int .u64 m ∧ bnum ((x :: l').take k) = m) (fun _ i => n' - (intOf i).toNat)
            case atStart => exact ⟨0, 0, Nat.zero_le _, rfl, rfl, rfl⟩
            case round =>
              obtain ⟨k, m, hk, rfl, rfl, hm⟩ := hrel
              have HM := Lib.hid hm
              clear hm
              by_cases hk2 : k < n'
              · obtain ⟨b2, off2, hkl2, e2, _, hc2⟩ := HBS.out.at_ hk2
                injection e2 with e2
                injection e2 with e2 e3
                subst e2; subst e3
                have h0 : (0 : Int) ≤ k := by omega
                have h1 : (k : Int) < n' := by omega
                have HX := Lib.hid (bnum_take (x :: l') hkl2)
                have H56 := Lib.hid (prefix_lt (l := (x :: l')) (k := k) (by have := HN.out; omega) hkl2)
                generalize (x :: l')[k] = x2 at *
                clear hkl2
                go_wp2
                refine ⟨⟨k + 1, m * 256 + x2.toNat, by omega, by go_num, by rw [mul8 (by rw [← HM.out]; exact H56.out)], by rw [HX.out, HM.out]⟩, by simp [intOf]; omega⟩
              · go_wp2
                go_ret2
                have e : bnum l = m := by rw [← HE.out, ← HM.out, List.take_of_length_le (by have := HN.out; omega)]
                have h64 : m < two64 := by rw [← e, ← HE.out]; exact bnum_small (by have := HN.out; omega)
                exact ⟨by rw [← uval_lt e h64, ← uok_lt e h64]; rfl, rfl⟩
    · have hn0 : n' = 0 := by omega
      have HB := Lib.hid hb
      clear hb
      subst hn0
      go_wp2
      go_loop [4, 5] (fun v i => i = .int .i64 0 ∧ v = .int .u64 0) (fun _ i => 0)
      case atStart => exact ⟨rfl, rfl⟩
      case round =>
        obtain ⟨rfl, rfl⟩ := hrel
        go_wp2
        go_ret2
        have e : bnum l = 0 := by rw [← HE.out, List.eq_nil_of_length_eq_zero HN.out]; rfl
        exact ⟨by rw [← uval_lt (n := 0) e (by decide), ← uok_lt e (by decide)]; rfl, rfl⟩
end Go.Proofs.Ytkkomaohcijhnaa
namespace Go.Proofs.Ytkkomaohcijhnaa
def sgn (a b : Int) : Int := if a < b then -1 else if b < a then 1 else 0
theorem sgn_self (a : Int) : sgn a a = 0 := by simp [sgn]
theorem sgn_zero {a b : Int} (h : sgn a b = 0) : a = b := by
  unfold sgn at h
  split at h
  · simp at h
  · split at h
    · simp at h
    · omega
theorem sgn_anti (a b : Int) : sgn b a = - sgn a b := by
  unfold sgn
  repeat split
  all_goals omega
theorem sgn_bd (a b : Int) : -1 ≤ sgn a b ∧ sgn a b ≤ 1 := by
  unfold sgn
  repeat split
  all_goals omega
def lex : List UInt8 → List UInt8 → Int
  | [], [] => 0
  | [], _ :: _ => -1
  | _ :: _, [] => 1
  | x :: xs, y :: ys => if x = y then lex xs ys else sgn x.toNat y.toNat
theorem byte_eq {x y : UInt8} (h : (x.toNat : Int) = y.toNat) : x = y := UInt8.toNat_inj.1 (by omega)
theorem lex_at (k : Nat) : ∀ (xs ys : List UInt8), xs.take k = ys.take k → ∀ (h1 : k < xs.length) (h2 : k < ys.length), sgn xs[k].toNat ys[k].toNat ≠ 0 → lex xs ys = sgn xs[k].toNat ys[k].toNat := by
  induction k with
  | zero =>
    intro xs ys _ h1 h2 hne
    cases xs with
    | nil => simp at h1
    | cons x xs =>
      cases ys with
      | nil => simp at h2
      | cons y ys =>
        simp only [List.getElem_cons_zero] at hne ⊢
        unfold lex
        rw [if_neg]
        rintro rfl
        exact hne (sgn_self _)
  | succ k ih =>
    intro xs ys ht h1 h2 hne
    cases xs with
    | nil => simp at h1
    | cons x xs =>
      cases ys with
      | nil => simp at h2
      | cons y ys =>
        simp only [List.take_succ_cons, List.cons.injEq] at ht
        simp only [List.getElem_cons_succ] at hne ⊢
        unfold lex
        rw [if_pos ht.1]
        exact ih xs ys ht.2 _ _ hne
theorem lex_end : ∀ (xs ys : List UInt8), xs.take (min xs.length ys.length) = ys.take (min xs.length ys.length) → lex xs ys = sgn xs.length ys.length := by
  intro xs
  induction xs with
  | nil =>
    intro ys _
    cases ys with
    | nil => rfl
    | cons y ys => simp [lex, sgn]
  | cons x xs ih =>
    intro ys h
    cases ys with
    | nil => simp [lex, sgn]; omega
    | cons y ys =>
      rw [show min (x :: xs).length (y :: ys).length = min xs.length ys.length + 1 from by simp only [List.length_cons]; omega] at h
      simp only [List.take_succ_cons, List.cons.injEq] at h
      unfold lex
      rw [if_pos h.1, ih ys h.2]
      unfold sgn
      simp only [List.length_cons]
      repeat split
      all_goals omega
theorem take_more {xs ys : List UInt8} {k : Nat} (h : xs.take k = ys.take k) (h1 : k < xs.length) (h2 : k < ys.length) (he : xs[k] = ys[k]) : xs.take (k + 1) = ys.take (k + 1) := by
  rw [List.take_succ_eq_append_getElem h1, List.take_succ_eq_append_getElem h2, h, he]
theorem take_step {xs ys : List UInt8} {n m k : Nat} {z : Int} (hz : sgn (xs.getD k 0).toNat (ys.getD k 0).toNat = z) (h : z = 0) (e1 : xs.length = n) (e2 : ys.length = m) (h1 : k < n) (h2 : k < m) (ht : xs.take k = ys.take k) : xs.take (k + 1) = ys.take (k + 1) := by
  subst e1; subst e2; subst h
  have a1 : xs.getD k 0 = xs[k] := by simp [h1]
  have a2 : ys.getD k 0 = ys[k] := by simp [h2]
  rw [a1, a2] at hz
  exact take_more ht h1 h2 (byte_eq (sgn_zero hz))
theorem lex_found {xs ys : List UInt8} {n m k : Nat} {z : Int} (hz : sgn (xs.getD k 0).toNat (ys.getD k 0).toNat = z) (h : (z != 0) = true) (e1 : xs.length = n) (e2 : ys.length = m) (h1 : k < n) (h2 : k < m) (ht : xs.take k = ys.take k) : lex xs ys = z := by
  subst e1; subst e2; subst hz
  have a1 : xs.getD k 0 = xs[k] := by simp [h1]
  have a2 : ys.getD k 0 = ys[k] := by simp [h2]
  rw [a1, a2] at h ⊢
  exact lex_at k xs ys ht h1 h2 (by simpa using h)
theorem lex_done {xs ys : List UInt8} {n m k : Nat} (e1 : xs.length = n) (e2 : ys.length = m) (h1 : k ≤ n) (h2 : k ≤ m) (h : ¬ (k < n ∧ k < m)) (ht : xs.take k = ys.take k) : lex xs ys = sgn n m := by
  subst e1; subst e2
  exact lex_end xs ys (by rw [show min xs.length ys.length = k from by omega]; exact ht)
theorem sgn_lt {a b : Nat} (h : a < b) : sgn a b = -1 := by unfold sgn; rw [if_pos (by omega)]
theorem sgn_gt {a b : Nat} (h : b < a) : sgn a b = 1 := by unfold sgn; rw [if_neg (by omega), if_pos (by omega)]
theorem sgn_eq {a b : Nat} (h1 : ¬ a < b) (h2 : ¬ b < a) : sgn a b = 0 := by unfold sgn; rw [if_neg (by omega), if_neg (by omega)]
theorem lex_lt {xs ys : List UInt8} {n m k a b : Nat} (hz : sgn (xs.getD k 0).toNat (ys.getD k 0).toNat = sgn a b) (h : a < b) (e1 : xs.length = n) (e2 : ys.length = m) (h1 : k < n) (h2 : k < m) (ht : xs.take k = ys.take k) : lex xs ys = -1 := by
  rw [lex_found hz (by rw [sgn_lt h]; rfl) e1 e2 h1 h2 ht, sgn_lt h]
theorem lex_gt {xs ys : List UInt8} {n m k a b : Nat} (hz : sgn (xs.getD k 0).toNat (ys.getD k 0).toNat = sgn a b) (h : b < a) (e1 : xs.length = n) (e2 : ys.length = m) (h1 : k < n) (h2 : k < m) (ht : xs.take k = ys.take k) : lex xs ys = 1 := by
  rw [lex_found hz (by rw [sgn_gt h]; rfl) e1 e2 h1 h2 ht, sgn_gt h]
theorem lex_anti : ∀ (xs ys : List UInt8), lex ys xs = - lex xs ys := by
  intro xs
  induction xs with
  | nil => intro ys; cases ys <;> simp [lex]
  | cons x xs ih =>
    intro ys
    cases ys with
    | nil => simp [lex]
    | cons y ys =>
      unfold lex
      by_cases h : x = y
      · rw [if_pos h, if_pos h.symm, ih]
      · rw [if_neg h, if_neg (fun e => h e.symm), sgn_anti]
theorem lex_bd : ∀ (xs ys : List UInt8), -1 ≤ lex xs ys ∧ lex xs ys ≤ 1 := by
  intro xs
  induction xs with
  | nil => intro ys; cases ys <;> simp [lex]
  | cons x xs ih =>
    intro ys
    cases ys with
    | nil => simp [lex]
    | cons y ys =>
      unfold lex
      by_cases h : x = y
      · rw [if_pos h]; exact ih ys
      · rw [if_neg h]; exact sgn_bd _ _
theorem lex_zero : ∀ (xs ys : List UInt8), lex xs ys = 0 ↔ xs = ys := by
  intro xs
  induction xs with
  | nil => intro ys; cases ys <;> simp [lex]
  | cons x xs ih =>
    intro ys
    cases ys with
    | nil => simp [lex]
    | cons y ys =>
      unfold lex
      by_cases h : x = y
      · rw [if_pos h, ih]; simp [h]
      · rw [if_neg h]
        constructor
        · intro h'; exact absurd (byte_eq (sgn_zero h')) h
        · intro h'; simp only [List.cons.injEq] at h'; exact absurd h'.1 h
theorem lex_trans : ∀ (xs ys zs : List UInt8), lex xs ys ≤ 0 → lex ys zs ≤ 0 → lex xs zs ≤ 0 := by
  intro xs
  induction xs with
  | nil => intro ys zs _ _; cases zs <;> simp [lex]
  | cons x xs ih =>
    intro ys zs h1 h2
    cases ys with
    | nil => simp [lex] at h1
    | cons y ys =>
      cases zs with
      | nil => simp [lex] at h2
      | cons z zs =>
        unfold lex at h1 h2 ⊢
        by_cases hxy : x = y
        · subst hxy
          rw [if_pos rfl] at h1
          by_cases hxz : x = z
          · rw [if_pos hxz] at h2 ⊢
            exact ih ys zs h1 h2
          · rw [if_neg hxz] at h2 ⊢
            exact h2
        · rw [if_neg hxy] at h1
          have l1 : (x.toNat : Int) < y.toNat := by
            unfold sgn at h1
            split at h1
            · assumption
            · split at h1
              · omega
              · exact absurd (byte_eq (by omega)) hxy
          by_cases hyz : y = z
          · subst hyz
            rw [if_neg hxy]
            unfold sgn; rw [if_pos l1]; omega
          · rw [if_neg hyz] at h2
            have l2 : (y.toNat : Int) < z.toNat := by
              unfold sgn at h2
              split at h2
              · assumption
              · split at h2
                · omega
                · exact absurd (byte_eq (by omega)) hyz
            rw [if_neg (by rintro rfl; omega)]
            unfold sgn; rw [if_pos (by omega)]; omega
end Go.Proofs.Ytkkomaohcijhnaa
namespace Go.Proofs.Ytkkomaohcijhnaa
open Go.RowKit
set_option maxHeartbeats 400000 in
theorem ref_compare_any {w : World} {a b : Option Addr} {n c m d : Nat} {xs ys : List UInt8} (hx : Bs w a n c xs) (hy : Bs w b m d ys) :
    Calls Try.prog 31 #[.slice a n c, .slice b m d] w fun e w' => e = .returned (.int .i64 (lex xs ys)) ∧ ∃ q, w' = w.drewN q := by
  have hn : n ≤ 9223372036854775807 := by have := hx.2.1; have := hx.2.2.1; unfold maxLen at this; omega
  have hm : m ≤ 9223372036854775807 := by have := hy.2.1; have := hy.2.2.1; unfold maxLen at this; omega
  go_enter Try.func31, Try.ntmps31
  go_wp2
  go_loopw [5] (fun i wr => ∃ k j : Nat, k ≤ n ∧ k ≤ m ∧ i = .int .i64 k ∧ xs.take k = ys.take k ∧ wr = w.drewN j) (fun i _ => n + m - (intOf i).toNat)
  case atStart => exact ⟨0, 0, Nat.zero_le _, Nat.zero_le _, rfl, rfl, rfl⟩
  case round =>
    obtain ⟨k, j, hk1, hk2, rfl, ht, rfl⟩ := hrel
    have HT := Lib.hid ht
    clear ht
    by_cases hlt : k < n ∧ k < m
    · obtain ⟨h1, h2⟩ := hlt
      obtain ⟨b1, o1, hl1, rfl, _, hc1⟩ := hx.at_ h1
      obtain ⟨b2, o2, hl2, rfl, _, hc2⟩ := hy.at_ h2
      have h0 : (0 : Int) ≤ k := by omega
      have hn' : (k : Int) < n := by omega
      have hm' : (k : Int) < m := by omega
      have e1 : xs.getD k 0 = xs[k] := by simp [hl1]
      have e2 : ys.getD k 0 = ys[k] := by simp [hl2]
      have HZ : Hid (sgn (xs.getD k 0).toNat (ys.getD k 0).toNat = sgn xs[k].toNat ys[k].toNat) := by rw [e1, e2]; rfl
      clear e1 e2
      generalize xs[k] = x at *
      generalize ys[k] = y at *
      clear hl1 hl2
      go_wp2
      go_quiet (fail)
      go_wp2
      · have hlt : x.toNat < y.toNat := by assumption
        go_ret
        exact ⟨ret_int (lex_lt HZ.out hlt hx.len hy.len h1 h2 HT.out).symm, by simp only [World.drewN_drewN]; exact ⟨_, rfl⟩⟩
      · have hge : ¬ x.toNat < y.toNat := by assumption
        go_quiet (fail)
        go_wp2
        · have hlt : y.toNat < x.toNat := by assumption
          go_ret
          exact ⟨ret_int (lex_gt HZ.out hlt hx.len hy.len h1 h2 HT.out).symm, by simp only [World.drewN_drewN]; exact ⟨_, rfl⟩⟩
        · have hge2 : ¬ y.toNat < x.toNat := by assumption
          go_roundw
          case rel => exact ⟨k + 1, _, by omega, by omega, by go_num, take_step HZ.out (sgn_eq hge hge2) hx.len hy.len h1 h2 HT.out, rfl⟩
          case measure => simp [intOf]; omega
    · go_wp2
      all_goals
        go_ret
        refine ⟨ret_int ?_, _, rfl⟩
        rw [lex_done hx.len hy.len hk1 hk2 hlt HT.out]
        unfold sgn
        (repeat split) <;> omega
end Go.Proofs.Ytkkomaohcijhnaa
namespace Go.Proofs.Ytkkomaohcijhnaa
open Go.RowKit
set_option maxRecDepth 100000
set_option maxRecDepth 100000 in
set_option maxHeartbeats 1000000 in
theorem ref_readLength_any {w : World} {a : Option Addr} {n c : Nat} {l : List UInt8} (hx : Bs w a n c l) :
    Calls Try.prog 64 #[.slice a n c] w fun e w' => e = .returned (.tuple #[.int .i64 (rdLen l).n, .int .i64 (rdLen l).size, .agg #[.int .i64 (rdLen l).code, .int .i64 (rdLen l).off]]) ∧ Below w.heap.size w w' := by
  have HX := Lib.hid hx
  have hn : n ≤ 9223372036854775807 := by have := hx.2.1; have := hx.2.2.1; unfold maxLen at this; omega
  have hnc := hx.2.1
  have hl := hx.len
  clear hx
  rcases l with _ | ⟨x, r⟩
  · simp only [List.length_nil] at hl
    subst hl
    go_enter Try.func64, Try.ntmps64
    go_wp2
    exact bodyPost_ret (v := .tuple #[.int .i64 0, .int .i64 0, .agg #[.int .i64 1, .int .i64 0]]) (by simp [results, Try.results64, go_sem]) rfl ⟨rfl, bal (Below.refl _ _) _⟩
  · simp only [List.length_cons] at hl
    obtain ⟨b, off, _, rfl, hb, hc⟩ := HX.out.at_ (i := 0) (by omega)
    simp only [List.getElem_cons_zero, Nat.add_zero] at hc
    have hxb := byte_bd x
    have hn1 : 0 < n := by omega
    have hn2 : 0 < (n : Int) := by omega
    have hn3 : ((n : Int) == 0) = false := by simp; omega
    by_cases hs : (x.toNat : Int) < 128
    · have HR := Lib.hid (rdLen_short (x := x) (r := r) (by omega))
      clear hl
      go_enter Try.func64, Try.ntmps64
      go_wp2
      exact bodyPost_ret (v := .tuple #[.int .i64 x.toNat, .int .i64 1, .agg #[.int .i64 0, .int .i64 0]]) (by simp [results, Try.results64, go_sem]) rfl ⟨ret_rl HR.out, bal (Below.refl _ _) _⟩
    · by_cases hw : x.toNat = 128 ∨ 132 < x.toNat
      · have HR := Lib.hid (rdLen_bad (x := x) (r := r) hw)
        clear hl
        rcases hw with hw | hw
        · have hx8 : ((x.toNat : Int) - 128 == 0) = true := by simp; omega
          clear hw
          go_enter Try.func64, Try.ntmps64
          go_wp2
          exact bodyPost_ret (v := .tuple #[.int .i64 0, .int .i64 0, .agg #[.int .i64 4, .int .i64 0]]) (by simp [results, Try.results64, go_sem]) rfl ⟨ret_rl HR.out, bal (Below.refl _ _) _⟩
        · have hx8 : ((x.toNat : Int) - 128 == 0) = false := by simp; omega
          have hx9 : 5 ≤ (x.toNat : Int) - 128 := by omega
          clear hw
          go_enter Try.func64, Try.ntmps64
          go_wp2
          exact bodyPost_ret (v := .tuple #[.int .i64 0, .int .i64 0, .agg #[.int .i64 4, .int .i64 0]]) (by simp [results, Try.results64, go_sem]) rfl ⟨ret_rl HR.out, bal (Below.refl _ _) _⟩
      · obtain ⟨d, hd⟩ : ∃ d, x.toNat = 128 + d := ⟨x.toNat - 128, by omega⟩
        have hd1 : 1 ≤ d := by omega
        have hd4 : d ≤ 4 := by omega
        have HR := Lib.hid (rdLen_long (x := x) (r := r) hd hd1 hd4)
        have hdi : ((x.toNat : Int) - 128) = d := by omega
        have hd5 : ((d : Int) == 0) = false := by simp; omega
        have HD := Lib.hid hd
        clear hw hd
        by_cases hsh : n < d + 1
        · rw [if_pos (by omega)] at HR
          have hsh2 : (n : Int) < 1 + d := by omega
          have e : ((n : Int)) = ((r.length + 1 : Nat) : Int) := by omega
          have HE := Lib.hid e
          clear hl e hsh
          go_enter Try.func64, Try.ntmps64
          go_wp2
          exact bodyPost_ret (v := .tuple #[.int .i64 0, .int .i64 0, .agg #[.int .i64 1, .int .i64 n]]) (by simp [results, Try.results64, go_sem]) rfl ⟨by rw [HE.out]; exact ret_rl HR.out, bal (Below.refl _ _) _⟩
        · rw [if_neg (by omega)] at HR
          have hsh2 : 1 + (d : Int) ≤ n := by omega
          have hc1 : ¬ c = 1 := by omega
          have HU := Lib.hid (bs_mid HX.out (i := 1) (m := d) (by omega) (by omega))
          have hrd : ((x :: r).drop 1).take d = r.take d := rfl
          rw [hrd] at HU
          have HT := Lib.hid (bs_take HX.out (m := 1 + d) (by omega))
          obtain ⟨N, hN⟩ : ∃ N, Hid (bnum (r.take d) = N) := ⟨_, rfl⟩
          rw [hN.out] at HR
          have hN32 : N < 4294967296 := by
            rw [← hN.out]
            have h1 := bnum_lt (r.take d)
            have h2 : 256 ^ (r.take d).length ≤ 256 ^ 4 := Nat.pow_le_pow_right (by omega) (by simp; omega)
            have h4 : (256 : Nat) ^ 4 = 4294967296 := by decide
            omega
          have hu := uval_lt hN.out (show N < two64 by unfold two64; omega)
          have huo := uok_lt hN.out (show N < two64 by unfold two64; omega)
          have HUn := Lib.hid (fun w (h : Bs w (some ⟨b, off + 1, none⟩) d (c - 1) (r.take d)) => ref_uint_any h)
          rw [← hu, ← huo] at HUn
          have hw : wrap64 (N : Int) = N := by unfold wrap64; omega
          have HN32 := Lib.hid hN32
          have HLN : Hid (d ≤ r.length) := by show _ ≤ _; omega
          clear hrd hl hsh hu huo hN32
          go_enter Try.func64, Try.ntmps64
          generalize hK : (2147483647 : Int) = K
          have HK := Lib.hid hK
          clear hK
          go_wp2_with fail
          refine (HUn.out _ (HU.out.alloc _)).mono ?_
          rintro e w1 ⟨rfl, rfl⟩
          by_cases hNM : N ≤ 2147483647
          · have hNK : (N : Int) ≤ K := by have := HK.out; omega
            have HNM := Lib.hid hNM
            clear hNM
            go_wp2_with fail
            refine (ref_length_ok HNM.out _).mono ?_
            rintro e w2 ⟨a2, c2, rfl, ho, q⟩
            have HO := Lib.hid ho.bs
            have HT2 := Lib.hid ((HT.out.alloc _).below q)
            have Z := (Blk.new w 28 #[.int .i64 0, .int .i64 0]).below q (by simp)
            have hR3 := Z.lt
            have z0 := Z.cell 0
            have z1 := Z.cell 1
            have f0 := Z.frozen 0
            have f1 := Z.frozen 1
            simp only [List.getElem?_toArray, List.getElem?_cons_zero, List.getElem?_cons_succ] at z0 z1
            have BB3 := Lib.hid (bthen (bal (Below.refl _ w) _) q)
            clear Z q ho
            go_wp2_with fail
            refine (ref_compare_any HO.out HT2.out).mono ?_
            rintro e w3 ⟨rfl, k, rfl⟩
            have etake : (x :: r).take (1 + d) = x :: r.take d := by rw [Nat.add_comm]; rfl
            rw [etake]
            clear etake
            by_cases he : lenOct N = x :: r.take d
            · have hz : lex (lenOct N) (x :: r.take d) = 0 := (lex_zero _ _).2 he
              rw [hz]
              rw [if_pos ⟨HNM.out, by rw [he]; have := HLN.out; simp; omega⟩] at HR
              clear hz he
              go_wp2_with fail
              exact bodyPost_ret (v := .tuple #[.int .i64 N, .int .i64 (1 + d), .agg #[.int .i64 0, .int .i64 0]]) (by simp [results, Try.results64, go_sem, z0, z1, hw]) rfl ⟨by rw [show (1 : Int) + d = ((d + 1 : Nat) : Int) from by omega]; exact ret_rl HR.out, below_pair (below_drewN BB3.out _) _ _⟩
            · obtain ⟨z, ez⟩ : ∃ z, lex (lenOct N) (x :: r.take d) = z := ⟨_, rfl⟩
              have hz : (z != 0) = true := by
                rw [← ez]
                simp
                exact fun h => he ((lex_zero _ _).1 h)
              rw [ez]
              rw [if_neg (fun h => he (lenOct_read HD.out HLN.out hd1 hN.out h.2 h.1))] at HR
              clear he ez
              go_wp2_with fail
              exact bodyPost_ret (v := .tuple #[.int .i64 0, .int .i64 0, .agg #[.int .i64 4, .int .i64 0]]) (by simp [results, Try.results64, go_sem, z0, z1]) rfl ⟨ret_rl HR.out, below_pair (below_drewN BB3.out _) _ _⟩
          · have hNK : K < (N : Int) := by have := HK.out; omega
            rw [if_neg (fun h => hNM h.1)] at HR
            clear hNM
            go_wp2
            exact bodyPost_ret (v := .tuple #[.int .i64 0, .int .i64 0, .agg #[.int .i64 4, .int .i64 0]]) (by simp [results, Try.results64, go_sem]) rfl ⟨ret_rl HR.out, bal (Below.refl _ _) _⟩
end Go.Proofs.Ytkkomaohcijhnaa
namespace Go.Proofs.Ytkkomaohcijhnaa
open Go.RowKit
set_option maxRecDepth 100000
def hdV (h : RH) : Value := .agg #[.int .i64 h.cls, .int .i64 h.num, .bool h.con, .int .i64 h.len, .int .i64 h.size]
def erV (c o : Nat) : Value := .agg #[.int .i64 c, .int .i64 o]
theorem moved_any {w : World} {g : Nat} {c o : Int} (ho : 0 ≤ o ∧ o ≤ 1000000) (hg : w.cell? ⟨g, 0, none⟩ = some (.int .i64 1)) :
    Calls Try.prog 61 #[.agg #[.int .i64 c, .int .i64 o], .pointer (some ⟨g, 0, none⟩)] w fun e w' => e = .returned (.agg #[.int .i64 c, .int .i64 (1 + o)]) ∧ Below w.heap.size w w' := by
  have hgl : g < w.heap.size := World.block_lt_of_cell? w ⟨g, 0, none⟩ hg
  go_enter Try.func61, Try.ntmps61
  go_wp2_with fail
  exact bodyPost_ret (v := .agg #[.int .i64 c, .int .i64 (1 + o)]) (by simp [results, Try.results61, go_sem]) rfl ⟨rfl, bal (bal (Below.refl _ _) _) _⟩
theorem hd_ok {x N S : Nat} {con : Bool} : Value.agg #[.int .i64 ((x : Int) / 64), .int .i64 ((x : Int) % 32), .bool con, .int .i64 N, .int .i64 (1 + S)] = hdV ⟨x / 64, x % 32, con, N, S + 1, 0, 0⟩ := by
  unfold hdV
  simp only []
  rw [show ((x / 64 : Nat) : Int) = (x : Int) / 64 from by omega, show ((x % 32 : Nat) : Int) = (x : Int) % 32 from by omega, show ((S + 1 : Nat) : Int) = 1 + S from by omega]
theorem ret_rh {l : List UInt8} {h : RH} (e : rdHead l = h) : Ending.returned (.tuple #[hdV h, erV h.code h.off]) = .returned (.tuple #[hdV (rdHead l), erV (rdHead l).code (rdHead l).off]) := by rw [e]
set_option maxRecDepth 100000 in
set_option maxHeartbeats 4000000 in
theorem readHeader_any {w : World} {a : Option Addr} {n c : Nat} {l : List UInt8} (hx : Bs w a n c l) :
    Calls Try.prog 46 #[.slice a n c] w fun e w' => e = .returned (.tuple #[hdV (rdHead l), erV (rdHead l).code (rdHead l).off]) ∧ Below w.heap.size w w' := by
  have HX := Lib.hid hx
  have hn : n ≤ 9223372036854775807 := by have := hx.2.1; have := hx.2.2.1; unfold maxLen at this; omega
  have hnc := hx.2.1
  have hl := hx.len
  clear hx
  rcases l with _ | ⟨x, r⟩
  · simp only [List.length_nil] at hl
    subst hl
    go_enter Try.func46, Try.ntmps46
    go_wp2
    exact bodyPost_ret (v := .tuple #[hdV (rdHead []), erV (rdHead []).code (rdHead []).off]) (by simp [results, Try.results46, go_sem, rdHead, hdV, erV]) rfl ⟨rfl, bal (bal (Below.refl _ _) _) _⟩
  · simp only [List.length_cons] at hl
    obtain ⟨b, off, _, rfl, hb, hc⟩ := HX.out.at_ (i := 0) (by omega)
    simp only [List.getElem_cons_zero, Nat.add_zero] at hc
    have hxb := byte_bd x
    have hn1 : 0 < n := by omega
    have hn2 : 0 < (n : Int) := by omega
    have hn3 : ((n : Int) == 0) = false := by simp; omega
    clear hl
    by_cases hid : idOk x = true
    · have HI := Lib.hid hid
      have HR := Lib.hid (fun w A m C (h : Bs w A m C r) => readLength_any h)
      have hbd := rdLen_bd r
      by_cases hq : (rdLen r).code = 0
      · have HH := Lib.hid (rdHead_ok (r := r) hid hq)
        clear hid
        rw [hq, (rdLen_ok hq).2.2.2] at HR
        generalize (rdLen r).n = N at *
        generalize (rdLen r).size = S at *
        have hS : (S : Int) ≤ 5 := by omega
        clear hbd hq
        by_cases hc1 : c = 1
        · have hn10 : n = 1 := by omega
          have HD := Lib.hid (bs_drop_one HX.out hc1)
          subst hc1
          subst hn10
          go_enter Try.func46, Try.ntmps46
          go_wp2_with fail
          refine (readIdentifier_ok _ HI.out).mono ?_
          rintro e w1 ⟨rfl, rfl⟩
          go_wp2_with fail
          refine (HR.out _ _ _ _ (((HD.out.alloc _).alloc _).alloc _)).mono ?_
          rintro e w2 ⟨rfl, q⟩
          have Z2 := ((((Blk.new w 56 #[.int .i64 0, .int .i64 0, .bool false, .int .i64 0, .int .i64 0]).alloc (.cells #[.int .i64 0, .int .i64 0] 28)).alloc (.cells #[.int .i64 1] 3)).below q (by simp; omega))
          have Z3 : Blk w2 (w.heap.size + 1) 28 #[.int .i64 0, .int .i64 0] := by simpa using (((Blk.new (w.alloc (.cells #[.int .i64 0, .int .i64 0, .bool false, .int .i64 0, .int .i64 0] 56)) 28 #[.int .i64 0, .int .i64 0]).alloc (.cells #[.int .i64 1] 3)).below q (by simp))
          have Z8 : Blk w2 (w.heap.size + 1 + 1) 3 #[.int .i64 1] := by simpa using ((Blk.new ((w.alloc (.cells #[.int .i64 0, .int .i64 0, .bool false, .int .i64 0, .int .i64 0] 56)).alloc (.cells #[.int .i64 0, .int .i64 0] 28)) 3 #[.int .i64 1]).below q (by simp))
          have z20 := Z2.cell 0
          have z21 := Z2.cell 1
          have z22 := Z2.cell 2
          have z23 := Z2.cell 3
          have z24 := Z2.cell 4
          have f2 := fun i => Z2.frozen i
          have z30 := Z3.cell 0
          have z31 := Z3.cell 1
          have f3 := fun i => Z3.frozen i
          have z80 := Z8.cell 0
          have hl2 := Z2.lt
          have hl3 := Z3.lt
          have hl8 := Z8.lt
          simp only [List.getElem?_toArray, List.getElem?_cons_zero, List.getElem?_cons_succ] at z20 z21 z22 z23 z24 z30 z31 z80
          have BB := Lib.hid (bthen (bal (bal (bal (Below.refl _ w) _) _) _) q)
          clear Z2 Z3 Z8 q
          go_wp2_with fail
          exact bodyPost_ret (v := .tuple #[.agg #[.int .i64 (x.toNat / 64), .int .i64 (x.toNat % 32), .bool (x.toNat / 32 % 2 == 1), .int .i64 N, .int .i64 (1 + S)], .agg #[.int .i64 0, .int .i64 0]]) (by simp [results, Try.results46, go_sem, z20, z21, z22, z23, z24, z30, z31, hl2, hl3]) rfl ⟨by rw [hd_ok]; exact ret_rh HH.out, by repeat (first | with_reducible exact BB.out | with_reducible refine bal ?_ _ | with_reducible refine below_at ?_ _ _ | with_reducible refine below_at1 ?_ _ _)⟩
        · have HD := Lib.hid (bs_drop_more HX.out hc1)
          go_enter Try.func46, Try.ntmps46
          go_wp2_with fail
          refine (readIdentifier_ok _ HI.out).mono ?_
          rintro e w1 ⟨rfl, rfl⟩
          go_wp2_with fail
          refine (HR.out _ _ _ _ (((HD.out.alloc _).alloc _).alloc _)).mono ?_
          rintro e w2 ⟨rfl, q⟩
          have Z2 := ((((Blk.new w 56 #[.int .i64 0, .int .i64 0, .bool false, .int .i64 0, .int .i64 0]).alloc (.cells #[.int .i64 0, .int .i64 0] 28)).alloc (.cells #[.int .i64 1] 3)).below q (by simp; omega))
          have Z3 : Blk w2 (w.heap.size + 1) 28 #[.int .i64 0, .int .i64 0] := by simpa using (((Blk.new (w.alloc (.cells #[.int .i64 0, .int .i64 0, .bool false, .int .i64 0, .int .i64 0] 56)) 28 #[.int .i64 0, .int .i64 0]).alloc (.cells #[.int .i64 1] 3)).below q (by simp))
          have Z8 : Blk w2 (w.heap.size + 1 + 1) 3 #[.int .i64 1] := by simpa using ((Blk.new ((w.alloc (.cells #[.int .i64 0, .int .i64 0, .bool false, .int .i64 0, .int .i64 0] 56)).alloc (.cells #[.int .i64 0, .int .i64 0] 28)) 3 #[.int .i64 1]).below q (by simp))
          have z20 := Z2.cell 0
          have z21 := Z2.cell 1
          have z22 := Z2.cell 2
          have z23 := Z2.cell 3
          have z24 := Z2.cell 4
          have f2 := fun i => Z2.frozen i
          have z30 := Z3.cell 0
          have z31 := Z3.cell 1
          have f3 := fun i => Z3.frozen i
          have z80 := Z8.cell 0
          have hl2 := Z2.lt
          have hl3 := Z3.lt
          have hl8 := Z8.lt
          simp only [List.getElem?_toArray, List.getElem?_cons_zero, List.getElem?_cons_succ] at z20 z21 z22 z23 z24 z30 z31 z80
          have BB := Lib.hid (bthen (bal (bal (bal (Below.refl _ w) _) _) _) q)
          clear Z2 Z3 Z8 q
          go_wp2_with fail
          exact bodyPost_ret (v := .tuple #[.agg #[.int .i64 (x.toNat / 64), .int .i64 (x.toNat % 32), .bool (x.toNat / 32 % 2 == 1), .int .i64 N, .int .i64 (1 + S)], .agg #[.int .i64 0, .int .i64 0]]) (by simp [results, Try.results46, go_sem, z20, z21, z22, z23, z24, z30, z31, hl2, hl3]) rfl ⟨by rw [hd_ok]; exact ret_rh HH.out, by repeat (first | with_reducible exact BB.out | with_reducible refine bal ?_ _ | with_reducible refine below_at ?_ _ _ | with_reducible refine below_at1 ?_ _ _)⟩
      · have HH := Lib.hid (rdHead_len (r := r) hid hq)
        clear hid
        generalize (rdLen r).n = N at *
        generalize (rdLen r).size = S at *
        generalize (rdLen r).code = C at *
        generalize (rdLen r).off = O at *
        have hC : ((C : Int) == 0) = false := by simp; omega
        have hC2 : ((C : Int) != 0) = true := by simp; omega
        have hO : (O : Int) ≤ 4 := by omega
        clear hbd hq
        by_cases hc1 : c = 1
        · have hn10 : n = 1 := by omega
          have HD := Lib.hid (bs_drop_one HX.out hc1)
          subst hc1
          subst hn10
          go_enter Try.func46, Try.ntmps46
          go_wp2_with fail
          refine (readIdentifier_ok _ HI.out).mono ?_
          rintro e w1 ⟨rfl, rfl⟩
          go_wp2_with fail
          refine (HR.out _ _ _ _ (((HD.out.alloc _).alloc _).alloc _)).mono ?_
          rintro e w2 ⟨rfl, q⟩
          have Z2 := ((((Blk.new w 56 #[.int .i64 0, .int .i64 0, .bool false, .int .i64 0, .int .i64 0]).alloc (.cells #[.int .i64 0, .int .i64 0] 28)).alloc (.cells #[.int .i64 1] 3)).below q (by simp; omega))
          have Z3 : Blk w2 (w.heap.size + 1) 28 #[.int .i64 0, .int .i64 0] := by simpa using (((Blk.new (w.alloc (.cells #[.int .i64 0, .int .i64 0, .bool false, .int .i64 0, .int .i64 0] 56)) 28 #[.int .i64 0, .int .i64 0]).alloc (.cells #[.int .i64 1] 3)).below q (by simp))
          have Z8 : Blk w2 (w.heap.size + 1 + 1) 3 #[.int .i64 1] := by simpa using ((Blk.new ((w.alloc (.cells #[.int .i64 0, .int .i64 0, .bool false, .int .i64 0, .int .i64 0] 56)).alloc (.cells #[.int .i64 0, .int .i64 0] 28)) 3 #[.int .i64 1]).below q (by simp))
          have z20 := Z2.cell 0
          have z21 := Z2.cell 1
          have z22 := Z2.cell 2
          have z23 := Z2.cell 3
          have z24 := Z2.cell 4
          have f2 := fun i => Z2.frozen i
          have z30 := Z3.cell 0
          have z31 := Z3.cell 1
          have f3 := fun i => Z3.frozen i
          have z80 := Z8.cell 0
          have hl2 := Z2.lt
          have hl3 := Z3.lt
          have hl8 := Z8.lt
          simp only [List.getElem?_toArray, List.getElem?_cons_zero, List.getElem?_cons_succ] at z20 z21 z22 z23 z24 z30 z31 z80
          have BB := Lib.hid (bthen (bal (bal (bal (Below.refl _ w) _) _) _) q)
          have Y2 := Lib.hid Z2
          have Y3 := Lib.hid Z3
          clear Z2 Z3 Z8 q z20 z21 z22 z23 z24 z30 z31 f2 f3
          have HM := Lib.hid (fun o => moved_any (c := (C : Int)) (o := (O : Int)) (by omega) (show (w2.alloc o).cell? ⟨w.heap.size + 1 + 1, 0, none⟩ = some (.int .i64 1) from (World.cell?_alloc_lt w2 o _ hl8).trans z80))
          go_wp2_with fail
          refine (HM.out _).mono ?_
          rintro e w3 ⟨rfl, q3⟩
          have Z2 := (Y2.out.alloc _).below q3 (by simp; omega)
          have Z3 := (Y3.out.alloc _).below q3 (by simp; omega)
          have z20 := Z2.cell 0
          have z21 := Z2.cell 1
          have z22 := Z2.cell 2
          have z23 := Z2.cell 3
          have z24 := Z2.cell 4
          have f2 := fun i => Z2.frozen i
          have z30 := Z3.cell 0
          have z31 := Z3.cell 1
          have f3 := fun i => Z3.frozen i
          have hl23 := Z2.lt
          have hl33 := Z3.lt
          simp only [List.getElem?_toArray, List.getElem?_cons_zero, List.getElem?_cons_succ] at z20 z21 z22 z23 z24 z30 z31
          have BB3 := Lib.hid (bthen (bal BB.out _) q3)
          clear Z2 Z3 q3 z80 HM
          go_wp2_with fail
          exact bodyPost_ret (v := .tuple #[.agg #[.int .i64 0, .int .i64 0, .bool false, .int .i64 0, .int .i64 0], .agg #[.int .i64 C, .int .i64 (1 + O)]]) (by simp [results, Try.results46, go_sem, z20, z21, z22, z23, z24, z30, z31]) rfl ⟨by rw [show (1 : Int) + O = ((O + 1 : Nat) : Int) from by omega]; exact ret_rh HH.out, by repeat (first | with_reducible exact BB3.out | with_reducible refine bal ?_ _ | with_reducible refine below_at ?_ _ _ | with_reducible refine below_at1 ?_ _ _)⟩
        · have HD := Lib.hid (bs_drop_more HX.out hc1)
          go_enter Try.func46, Try.ntmps46
          go_wp2_with fail
          refine (readIdentifier_ok _ HI.out).mono ?_
          rintro e w1 ⟨rfl, rfl⟩
          go_wp2_with fail
          refine (HR.out _ _ _ _ (((HD.out.alloc _).alloc _).alloc _)).mono ?_
          rintro e w2 ⟨rfl, q⟩
          have Z2 := ((((Blk.new w 56 #[.int .i64 0, .int .i64 0, .bool false, .int .i64 0, .int .i64 0]).alloc (.cells #[.int .i64 0, .int .i64 0] 28)).alloc (.cells #[.int .i64 1] 3)).below q (by simp; omega))
          have Z3 : Blk w2 (w.heap.size + 1) 28 #[.int .i64 0, .int .i64 0] := by simpa using (((Blk.new (w.alloc (.cells #[.int .i64 0, .int .i64 0, .bool false, .int .i64 0, .int .i64 0] 56)) 28 #[.int .i64 0, .int .i64 0]).alloc (.cells #[.int .i64 1] 3)).below q (by simp))
          have Z8 : Blk w2 (w.heap.size + 1 + 1) 3 #[.int .i64 1] := by simpa using ((Blk.new ((w.alloc (.cells #[.int .i64 0, .int .i64 0, .bool false, .int .i64 0, .int .i64 0] 56)).alloc (.cells #[.int .i64 0, .int .i64 0] 28)) 3 #[.int .i64 1]).below q (by simp))
          have z20 := Z2.cell 0
          have z21 := Z2.cell 1
          have z22 := Z2.cell 2
          have z23 := Z2.cell 3
          have z24 := Z2.cell 4
          have f2 := fun i => Z2.frozen i
          have z30 := Z3.cell 0
          have z31 := Z3.cell 1
          have f3 := fun i => Z3.frozen i
          have z80 := Z8.cell 0
          have hl2 := Z2.lt
          have hl3 := Z3.lt
          have hl8 := Z8.lt
          simp only [List.getElem?_toArray, List.getElem?_cons_zero, List.getElem?_cons_succ] at z20 z21 z22 z23 z24 z30 z31 z80
          have BB := Lib.hid (bthen (bal (bal (bal (Below.refl _ w) _) _) _) q)
          have Y2 := Lib.hid Z2
          have Y3 := Lib.hid Z3
          clear Z2 Z3 Z8 q z20 z21 z22 z23 z24 z30 z31 f2 f3
          have HM := Lib.hid (fun o => moved_any (c := (C : Int)) (o := (O : Int)) (by omega) (show (w2.alloc o).cell? ⟨w.heap.size + 1 + 1, 0, none⟩ = some (.int .i64 1) from (World.cell?_alloc_lt w2 o _ hl8).trans z80))
          go_wp2_with fail
          refine (HM.out _).mono ?_
          rintro e w3 ⟨rfl, q3⟩
          have Z2 := (Y2.out.alloc _).below q3 (by simp; omega)
          have Z3 := (Y3.out.alloc _).below q3 (by simp; omega)
          have z20 := Z2.cell 0
          have z21 := Z2.cell 1
          have z22 := Z2.cell 2
          have z23 := Z2.cell 3
          have z24 := Z2.cell 4
          have f2 := fun i => Z2.frozen i
          have z30 := Z3.cell 0
          have z31 := Z3.cell 1
          have f3 := fun i => Z3.frozen i
          have hl23 := Z2.lt
          have hl33 := Z3.lt
          simp only [List.getElem?_toArray, List.getElem?_cons_zero, List.getElem?_cons_succ] at z20 z21 z22 z23 z24 z30 z31
          have BB3 := Lib.hid (bthen (bal BB.out _) q3)
          clear Z2 Z3 q3 z80 HM
          go_wp2_with fail
          exact bodyPost_ret (v := .tuple #[.agg #[.int .i64 0, .int .i64 0, .bool false, .int .i64 0, .int .i64 0], .agg #[.int .i64 C, .int .i64 (1 + O)]]) (by simp [results, Try.results46, go_sem, z20, z21, z22, z23, z24, z30, z31]) rfl ⟨by rw [show (1 : Int) + O = ((O + 1 : Nat) : Int) from by omega]; exact ret_rh HH.out, by repeat (first | with_reducible exact BB3.out | with_reducible refine bal ?_ _ | with_reducible refine below_at ?_ _ _ | with_reducible refine below_at1 ?_ _ _)⟩
    · have hid' : idOk x = false := by simpa using hid
      have HI := Lib.hid hid'
      have HH := Lib.hid (rdHead_tag (r := r) hid')
      clear hid hid'
      go_enter Try.func46, Try.ntmps46
      go_wp2_with fail
      refine (readIdentifier_bad _ HI.out).mono ?_
      rintro e w1 ⟨rfl, rfl⟩
      go_wp2_with fail
      exact bodyPost_ret (v := .tuple #[.agg #[.int .i64 0, .int .i64 0, .bool false, .int .i64 0, .int .i64 0], .agg #[.int .i64 3, .int .i64 0]]) (by simp [results, Try.results46, go_sem]) rfl ⟨ret_rh HH.out, by repeat (first | with_reducible exact Below.refl _ _ | with_reducible refine bal ?_ _ | with_reducible refine below_at ?_ _ _ | with_reducible refine below_at1 ?_ _ _)⟩
end Go.Proofs.Ytkkomaohcijhnaa
namespace Go.Proofs.Ytkkomaohcijhnaa
open Go.RowKit
set_option maxRecDepth 100000
set_option maxRecDepth 100000 in
set_option maxHeartbeats 4000000 in
theorem ref_readHeader_any {w : World} {a : Option Addr} {n c : Nat} {l : List UInt8} (hx : Bs w a n c l) :
    Calls Try.prog 47 #[.slice a n c] w fun e w' => e = .returned (.tuple #[hdV (rdHead l), erV (rdHead l).code (rdHead l).off]) ∧ Below w.heap.size w w' := by
  have HX := Lib.hid hx
  have hn : n ≤ 9223372036854775807 := by have := hx.2.1; have := hx.2.2.1; unfold maxLen at this; omega
  have hnc := hx.2.1
  have hl := hx.len
  clear hx
  rcases l with _ | ⟨x, r⟩
  · simp only [List.length_nil] at hl
    subst hl
    go_enter Try.func47, Try.ntmps47
    go_wp2
    exact bodyPost_ret (v := .tuple #[hdV (rdHead []), erV (rdHead []).code (rdHead []).off]) (by simp [results, Try.results47, go_sem, rdHead, hdV, erV]) rfl ⟨rfl, bal (bal (Below.refl _ _) _) _⟩
  · simp only [List.length_cons] at hl
    obtain ⟨b, off, _, rfl, hb, hc⟩ := HX.out.at_ (i := 0) (by omega)
    simp only [List.getElem_cons_zero, Nat.add_zero] at hc
    have hxb := byte_bd x
    have hn1 : 0 < n := by omega
    have hn2 : 0 < (n : Int) := by omega
    have hn3 : ((n : Int) == 0) = false := by simp; omega
    clear hl
    by_cases hid : idOk x = true
    · have HI := Lib.hid hid
      have HR := Lib.hid (fun w A m C (h : Bs w A m C r) => ref_readLength_any h)
      have hbd := rdLen_bd r
      by_cases hq : (rdLen r).code = 0
      · have HH := Lib.hid (rdHead_ok (r := r) hid hq)
        clear hid
        rw [hq, (rdLen_ok hq).2.2.2] at HR
        generalize (rdLen r).n = N at *
        generalize (rdLen r).size = S at *
        have hS : (S : Int) ≤ 5 := by omega
        clear hbd hq
        by_cases hc1 : c = 1
        · have hn10 : n = 1 := by omega
          have HD := Lib.hid (bs_drop_one HX.out hc1)
          subst hc1
          subst hn10
          go_enter Try.func47, Try.ntmps47
          go_wp2_with fail
          refine (ref_readIdentifier_ok _ HI.out).mono ?_
          rintro e w1 ⟨rfl, rfl⟩
          go_wp2_with fail
          refine (HR.out _ _ _ _ ((HD.out.alloc _).alloc _)).mono ?_
          rintro e w2 ⟨rfl, q⟩
          have Z2 := ((((Blk.new w 56 #[.int .i64 0, .int .i64 0, .bool false, .int .i64 0, .int .i64 0]).alloc (.cells #[.int .i64 0, .int .i64 0] 28))).below q (by simp; omega))
          have Z3 : Blk w2 (w.heap.size + 1) 28 #[.int .i64 0, .int .i64 0] := by simpa using (((Blk.new (w.alloc (.cells #[.int .i64 0, .int .i64 0, .bool false, .int .i64 0, .int .i64 0] 56)) 28 #[.int .i64 0, .int .i64 0])).below q (by simp))
          have z20 := Z2.cell 0
          have z21 := Z2.cell 1
          have z22 := Z2.cell 2
          have z23 := Z2.cell 3
          have z24 := Z2.cell 4
          have f2 := fun i => Z2.frozen i
          have z30 := Z3.cell 0
          have z31 := Z3.cell 1
          have f3 := fun i => Z3.frozen i
          have hl2 := Z2.lt
          have hl3 := Z3.lt
          simp only [List.getElem?_toArray, List.getElem?_cons_zero, List.getElem?_cons_succ] at z20 z21 z22 z23 z24 z30 z31
          have BB := Lib.hid (bthen (bal (bal (Below.refl _ w) _) _) q)
          clear Z2 Z3 q
          go_wp2_with fail
          exact bodyPost_ret (v := .tuple #[.agg #[.int .i64 (x.toNat / 64), .int .i64 (x.toNat % 32), .bool (x.toNat / 32 % 2 == 1), .int .i64 N, .int .i64 (1 + S)], .agg #[.int .i64 0, .int .i64 0]]) (by simp [results, Try.results47, go_sem, z20, z21, z22, z23, z24, z30, z31, hl2, hl3]) rfl ⟨by rw [hd_ok]; exact ret_rh HH.out, by repeat (first | with_reducible exact BB.out | with_reducible refine bal ?_ _ | with_reducible refine below_at ?_ _ _ | with_reducible refine below_at1 ?_ _ _)⟩
        · have HD := Lib.hid (bs_drop_more HX.out hc1)
          go_enter Try.func47, Try.ntmps47
          go_wp2_with fail
          refine (ref_readIdentifier_ok _ HI.out).mono ?_
          rintro e w1 ⟨rfl, rfl⟩
          go_wp2_with fail
          refine (HR.out _ _ _ _ ((HD.out.alloc _).alloc _)).mono ?_
          rintro e w2 ⟨rfl, q⟩
          have Z2 := ((((Blk.new w 56 #[.int .i64 0, .int .i64 0, .bool false, .int .i64 0, .int .i64 0]).alloc (.cells #[.int .i64 0, .int .i64 0] 28))).below q (by simp; omega))
          have Z3 : Blk w2 (w.heap.size + 1) 28 #[.int .i64 0, .int .i64 0] := by simpa using (((Blk.new (w.alloc (.cells #[.int .i64 0, .int .i64 0, .bool false, .int .i64 0, .int .i64 0] 56)) 28 #[.int .i64 0, .int .i64 0])).below q (by simp))
          have z20 := Z2.cell 0
          have z21 := Z2.cell 1
          have z22 := Z2.cell 2
          have z23 := Z2.cell 3
          have z24 := Z2.cell 4
          have f2 := fun i => Z2.frozen i
          have z30 := Z3.cell 0
          have z31 := Z3.cell 1
          have f3 := fun i => Z3.frozen i
          have hl2 := Z2.lt
          have hl3 := Z3.lt
          simp only [List.getElem?_toArray, List.getElem?_cons_zero, List.getElem?_cons_succ] at z20 z21 z22 z23 z24 z30 z31
          have BB := Lib.hid (bthen (bal (bal (Below.refl _ w) _) _) q)
          clear Z2 Z3 q
          go_wp2_with fail
          exact bodyPost_ret (v := .tuple #[.agg #[.int .i64 (x.toNat / 64), .int .i64 (x.toNat % 32), .bool (x.toNat / 32 % 2 == 1), .int .i64 N, .int .i64 (1 + S)], .agg #[.int .i64 0, .int .i64 0]]) (by simp [results, Try.results47, go_sem, z20, z21, z22, z23, z24, z30, z31, hl2, hl3]) rfl ⟨by rw [hd_ok]; exact ret_rh HH.out, by repeat (first | with_reducible exact BB.out | with_reducible refine bal ?_ _ | with_reducible refine below_at ?_ _ _ | with_reducible refine below_at1 ?_ _ _)⟩
      · have HH := Lib.hid (rdHead_len (r := r) hid hq)
        clear hid
        generalize (rdLen r).n = N at *
        generalize (rdLen r).size = S at *
        generalize (rdLen r).code = C at *
        generalize (rdLen r).off = O at *
        have hC : ((C : Int) == 0) = false := by simp; omega
        have hC2 : ((C : Int) != 0) = true := by simp; omega
        have hO : (O : Int) ≤ 4 := by omega
        clear hbd hq
        by_cases hc1 : c = 1
        · have hn10 : n = 1 := by omega
          have HD := Lib.hid (bs_drop_one HX.out hc1)
          subst hc1
          subst hn10
          go_enter Try.func47, Try.ntmps47
          go_wp2_with fail
          refine (ref_readIdentifier_ok _ HI.out).mono ?_
          rintro e w1 ⟨rfl, rfl⟩
          go_wp2_with fail
          refine (HR.out _ _ _ _ ((HD.out.alloc _).alloc _)).mono ?_
          rintro e w2 ⟨rfl, q⟩
          have Z2 := ((((Blk.new w 56 #[.int .i64 0, .int .i64 0, .bool false, .int .i64 0, .int .i64 0]).alloc (.cells #[.int .i64 0, .int .i64 0] 28))).below q (by simp; omega))
          have Z3 : Blk w2 (w.heap.size + 1) 28 #[.int .i64 0, .int .i64 0] := by simpa using (((Blk.new (w.alloc (.cells #[.int .i64 0, .int .i64 0, .bool false, .int .i64 0, .int .i64 0] 56)) 28 #[.int .i64 0, .int .i64 0])).below q (by simp))
          have z20 := Z2.cell 0
          have z21 := Z2.cell 1
          have z22 := Z2.cell 2
          have z23 := Z2.cell 3
          have z24 := Z2.cell 4
          have f2 := fun i => Z2.frozen i
          have z30 := Z3.cell 0
          have z31 := Z3.cell 1
          have f3 := fun i => Z3.frozen i
          have hl2 := Z2.lt
          have hl3 := Z3.lt
          simp only [List.getElem?_toArray, List.getElem?_cons_zero, List.getElem?_cons_succ] at z20 z21 z22 z23 z24 z30 z31
          have BB := Lib.hid (bthen (bal (bal (Below.refl _ w) _) _) q)
          clear Z2 Z3 q
          go_wp2_with fail
          go_region
          go_wp2_with fail
          exact bodyPost_ret (v := .tuple #[.agg #[.int .i64 0, .int .i64 0, .bool false, .int .i64 0, .int .i64 0], .agg #[.int .i64 C, .int .i64 (O + 1)]]) (by simp [results, Try.results47, go_sem, z20, z21, z22, z23, z24, z30, z31, hl2, hl3]) rfl ⟨by rw [show (O : Int) + 1 = ((O + 1 : Nat) : Int) from by omega]; exact ret_rh HH.out, by repeat (first | with_reducible exact BB.out | with_reducible refine below_draw ?_ | with_reducible refine bal ?_ _ | with_reducible refine below_at ?_ _ _ | with_reducible refine below_at1 ?_ _ _)⟩
        · have HD := Lib.hid (bs_drop_more HX.out hc1)
          go_enter Try.func47, Try.ntmps47
          go_wp2_with fail
          refine (ref_readIdentifier_ok _ HI.out).mono ?_
          rintro e w1 ⟨rfl, rfl⟩
          go_wp2_with fail
          refine (HR.out _ _ _ _ ((HD.out.alloc _).alloc _)).mono ?_
          rintro e w2 ⟨rfl, q⟩
          have Z2 := ((((Blk.new w 56 #[.int .i64 0, .int .i64 0, .bool false, .int .i64 0, .int .i64 0]).alloc (.cells #[.int .i64 0, .int .i64 0] 28))).below q (by simp; omega))
          have Z3 : Blk w2 (w.heap.size + 1) 28 #[.int .i64 0, .int .i64 0] := by simpa using (((Blk.new (w.alloc (.cells #[.int .i64 0, .int .i64 0, .bool false, .int .i64 0, .int .i64 0] 56)) 28 #[.int .i64 0, .int .i64 0])).below q (by simp))
          have z20 := Z2.cell 0
          have z21 := Z2.cell 1
          have z22 := Z2.cell 2
          have z23 := Z2.cell 3
          have z24 := Z2.cell 4
          have f2 := fun i => Z2.frozen i
          have z30 := Z3.cell 0
          have z31 := Z3.cell 1
          have f3 := fun i => Z3.frozen i
          have hl2 := Z2.lt
          have hl3 := Z3.lt
          simp only [List.getElem?_toArray, List.getElem?_cons_zero, List.getElem?_cons_succ] at z20 z21 z22 z23 z24 z30 z31
          have BB := Lib.hid (bthen (bal (bal (Below.refl _ w) _) _) q)
          clear Z2 Z3 q
          go_wp2_with fail
          go_region
          go_wp2_with fail
          exact bodyPost_ret (v := .tuple #[.agg #[.int .i64 0, .int .i64 0, .bool false, .int .i64 0, .int .i64 0], .agg #[.int .i64 C, .int .i64 (O + 1)]]) (by simp [results, Try.results47, go_sem, z20, z21, z22, z23, z24, z30, z31, hl2, hl3]) rfl ⟨by rw [show (O : Int) + 1 = ((O + 1 : Nat) : Int) from by omega]; exact ret_rh HH.out, by repeat (first | with_reducible exact BB.out | with_reducible refine below_draw ?_ | with_reducible refine bal ?_ _ | with_reducible refine below_at ?_ _ _ | with_reducible refine below_at1 ?_ _ _)⟩
    · have hid' : idOk x = false := by simpa using hid
      have HI := Lib.hid hid'
      have HH := Lib.hid (rdHead_tag (r := r) hid')
      clear hid hid'
      go_enter Try.func47, Try.ntmps47
      go_wp2_with fail
      refine (ref_readIdentifier_bad _ HI.out).mono ?_
      rintro e w1 ⟨rfl, rfl⟩
      go_wp2_with fail
      exact bodyPost_ret (v := .tuple #[.agg #[.int .i64 0, .int .i64 0, .bool false, .int .i64 0, .int .i64 0], .agg #[.int .i64 3, .int .i64 0]]) (by simp [results, Try.results47, go_sem]) rfl ⟨ret_rh HH.out, by repeat (first | with_reducible exact Below.refl _ _ | with_reducible refine bal ?_ _ | with_reducible refine below_at ?_ _ _ | with_reducible refine below_at1 ?_ _ _)⟩
end Go.Proofs.Ytkkomaohcijhnaa
namespace Go.Proofs.Ytkkomaohcijhnaa
open Go.RowKit
set_option maxRecDepth 100000
theorem size_set (w : World) (p : Addr) (u : Value) : (w.setCell p u).heap.size = w.heap.size := by simp [World.setCell]
theorem cell_in {w : World} {o : Obj} {H j : Nat} {t : TypeId} {cs : Array Value} (h : w.heap.size = H) : (((w.alloc (.cells cs t)).alloc o).drew).cell? ⟨H, j, none⟩ = cs[j]? := by
  subst h
  exact (((Blk.new w t cs).alloc o).drewN 1).cell j
def RefNextPost (w : World) (l : List UInt8) (e : Ending) (w' : World) : Prop :=
  ∃ a1 c1 a2 c2, e = .returned (.tuple #[hdV (rdNext l).h, .slice a1 (rdNext l).cont.length c1, .slice a2 (rdNext l).rest.length c2, erV (rdNext l).h.code (rdNext l).h.off]) ∧
    Bs w a1 (rdNext l).cont.length c1 (rdNext l).cont ∧ Bs w a2 (rdNext l).rest.length c2 (rdNext l).rest ∧ Below w.heap.size w w'
def RefNextFrom (w0 w : World) (l : List UInt8) (e : Ending) (w' : World) : Prop :=
  ∃ a1 c1 a2 c2, e = .returned (.tuple #[hdV (rdNext l).h, .slice a1 (rdNext l).cont.length c1, .slice a2 (rdNext l).rest.length c2, erV (rdNext l).h.code (rdNext l).h.off]) ∧
    Bs w0 a1 (rdNext l).cont.length c1 (rdNext l).cont ∧ Bs w0 a2 (rdNext l).rest.length c2 (rdNext l).rest ∧ Below w.heap.size w w'
theorem ref_next_err {w0 w w' : World} {l : List UInt8} {C O : Nat} (h : rdNext l = ⟨noHd C O, [], []⟩) (hb : Below w.heap.size w w') :
    RefNextFrom w0 w l (.returned (.tuple #[.agg #[.int .i64 0, .int .i64 0, .bool false, .int .i64 0, .int .i64 0], .slice none 0 0, .slice none 0 0, .agg #[.int .i64 C, .int .i64 O]])) w' := by
  unfold RefNextFrom
  rw [h]
  exact ⟨none, 0, none, 0, rfl, Bs.nil_ _, Bs.nil_ _, hb⟩
theorem ref_next_ok {w0 w w' : World} {l cont rest : List UInt8} {cls num len size r n1 : Nat} {con : Bool} {a3 a4 : Option Addr} {c3 c4 : Nat} (h : rdNext l = ⟨⟨cls, num, con, len, size, 0, 0⟩, cont, rest⟩)
    (B3 : Bs w0 a3 n1 c3 cont) (B4 : Bs w0 a4 r c4 rest) (hb : Below w.heap.size w w') :
    RefNextFrom w0 w l (.returned (.tuple #[.agg #[.int .i64 cls, .int .i64 num, .bool con, .int .i64 len, .int .i64 size], .slice a3 n1 c3, .slice a4 r c4, .agg #[.int .i64 0, .int .i64 0]])) w' := by
  obtain rfl := B3.len
  obtain rfl := B4.len
  unfold RefNextFrom
  rw [h]
  exact ⟨a3, c3, a4, c4, rfl, B3, B4, hb⟩
set_option maxRecDepth 100000 in
set_option maxHeartbeats 4000000 in
theorem ref_next_from {w0 w : World} {a : Option Addr} {n c : Nat} {l : List UInt8} (hx0 : Bs w0 a n c l) (hw0 : Below w0.heap.size w0 w) (hz : n ≤ 1000000) :
    Calls Try.prog 33 #[.slice a n c] w (RefNextFrom w0 w l) := by
  have hx := hx0.below hw0
  have HX0 := Lib.hid hx0
  have HX := Lib.hid hx
  clear hx0 hw0
  have hnc := hx.2.1
  have hl := hx.len
  have HR := Lib.hid (fun w (h : Bs w a n c l) => ref_readHeader_any h)
  clear hx
  by_cases hq : (rdHead l).code = 0
  · have hsz := rdHead_size hq
    have HN : Hid (rdNext l = if l.length - (rdHead l).size < (rdHead l).len then ⟨noHd 1 l.length, [], []⟩ else ⟨rdHead l, (l.drop (rdHead l).size).take (rdHead l).len, (l.drop (rdHead l).size).drop (rdHead l).len⟩) := by show _ = _; unfold rdNext; rw [if_pos hq]
    generalize rdHead l = h at *
    obtain ⟨cls, num, con, len, size, code, off⟩ := h
    simp only at hq hsz
    subst hq
    obtain ⟨hs1, hs2, hs3, hs4, rfl⟩ := hsz
    rw [hl] at hs1 HN
    obtain ⟨b, off', _, rfl, hb, _⟩ := HX.out.at_ (i := 0) (by omega)
    have hs2' : (2 : Int) ≤ size := by omega
    have hs1' : (size : Int) ≤ n := by omega
    have hs4' : (size : Int) ≤ 6 := by omega
    have hs3' : (len : Int) ≤ 2147483647 := by omega
    have hn9 : (n : Int) ≤ 1000000 := by omega
    unfold hdV erV at HR
    simp only at HR HN
    by_cases hcs : c = size
    · have hns : n = size := by omega
      subst hns
      subst hcs
      go_enter Try.func33, Try.ntmps33
      go_wp2_with fail
      refine (HR.out _ ((HX.out.alloc _).alloc _)).mono ?_
      rintro e w2 ⟨rfl, q⟩
      have Z2 := (((Blk.new w 56 #[.int .i64 0, .int .i64 0, .bool false, .int .i64 0, .int .i64 0]).alloc (.cells #[.int .i64 0, .int .i64 0] 28)).below q (by simp; omega))
      have Z3 : Blk w2 (w.heap.size + 1) 28 #[.int .i64 0, .int .i64 0] := by simpa using (((Blk.new (w.alloc (.cells #[.int .i64 0, .int .i64 0, .bool false, .int .i64 0, .int .i64 0] 56)) 28 #[.int .i64 0, .int .i64 0])).below q (by simp))
      have z20 := Z2.cell 0
      have z21 := Z2.cell 1
      have z22 := Z2.cell 2
      have z23 := Z2.cell 3
      have z24 := Z2.cell 4
      have f2 := fun i => Z2.frozen i
      have z30 := Z3.cell 0
      have z31 := Z3.cell 1
      have f3 := fun i => Z3.frozen i
      have hl2 := Z2.lt
      have hl3 := Z3.lt
      simp only [List.getElem?_toArray, List.getElem?_cons_zero, List.getElem?_cons_succ] at z20 z21 z22 z23 z24 z30 z31
      have BB := Lib.hid (bthen (bal (bal (Below.refl _ w) _) _) q)
      have RK := Lib.hid Z2
      have EK := Lib.hid Z3
      clear Z2 Z3 q
      by_cases hsh : c - c < len
      · rw [if_pos hsh] at HN
        have hshi : (0 : Int) < len := by omega
        have hshn : 0 < len := by omega
        go_wp2_with fail
        exact bodyPost_ret (v := .tuple #[.agg #[.int .i64 0, .int .i64 0, .bool false, .int .i64 0, .int .i64 0], .slice none 0 0, .slice none 0 0, .agg #[.int .i64 1, .int .i64 c]]) (by simp [results, Try.results33, go_sem, z20, z21, z22, z23, z24, z30, z31, hl2, hl3]) rfl (ref_next_err HN.out (by repeat (first | with_reducible exact BB.out | with_reducible refine bal ?_ _ | with_reducible refine below_at ?_ _ _ | with_reducible refine below_at1 ?_ _ _ | with_reducible refine below_draw ?_)))
      · rw [if_neg hsh] at HN
        have hlen : len = 0 := by omega
        have HB := Lib.hid (bs_drop HX0.out (i := c) (Nat.le_refl _))
        rw [if_pos rfl, Nat.sub_self] at HB
        subst hlen
        have HB1 := Lib.hid (bs_take HB.out (m := 0) (Nat.le_refl _))
        have HB2 : Hid (Bs w0 (some ⟨b, off', none⟩) 0 0 (List.drop 0 (List.drop c l))) := HB.out
        go_wp2_with fail
        clear HB HX HX0 HR hs1 hsh hl
        have hsum : IntKind.i64.wrap ((c : Int) + 0) = c := by rw [IntKind.wrap_i64]; omega
        have hsum2 : IntKind.i64.wrap (c : Int) = c := by rw [IntKind.wrap_i64]; omega
        have hc0 : (0 : Int) ≤ c := by omega
        have hc1 : (c : Int) ≤ c := Int.le_refl _
        go_region_held3 (fun w' => w'.cell? ⟨w2.heap.size, 0, none⟩ = some (.int .i64 cls) ∧ w'.cell? ⟨w2.heap.size, 1, none⟩ = some (.int .i64 num) ∧ w'.cell? ⟨w2.heap.size, 2, none⟩ = some (.bool con) ∧ w'.cell? ⟨w2.heap.size, 3, none⟩ = some (.int .i64 0) ∧ w'.cell? ⟨w2.heap.size, 4, none⟩ = some (.int .i64 c))
          (first | exact ⟨(cell_in (by simp only [size_set])).trans rfl, (cell_in (by simp only [size_set])).trans rfl, (cell_in (by simp only [size_set])).trans rfl, (cell_in (by simp only [size_set])).trans rfl, (cell_in (by simp only [size_set])).trans rfl⟩ | go_keep)
          (first | fail)
        go_wp2_with fail
        exact bodyPost_ret (v := .tuple #[.agg #[.int .i64 cls, .int .i64 num, .bool con, .int .i64 0, .int .i64 c], .slice (some ⟨b, off', none⟩) 0 0, .slice (some ⟨b, off', none⟩) 0 0, .agg #[.int .i64 0, .int .i64 0]]) (by simp [results, Try.results33, go_sem, z20, z21, z22, z23, z24, z30, z31, hl2, hl3]) rfl (ref_next_ok HN.out HB1.out HB2.out (by repeat (first | with_reducible exact BB.out | with_reducible refine bal ?_ _ | with_reducible refine below_at ?_ _ _ | with_reducible refine below_at1 ?_ _ _ | with_reducible refine below_draw ?_)))
    · have HB := Lib.hid (bs_drop HX0.out hs1)
      rw [if_neg hcs] at HB
      go_enter Try.func33, Try.ntmps33
      go_wp2_with fail
      refine (HR.out _ ((HX.out.alloc _).alloc _)).mono ?_
      rintro e w2 ⟨rfl, q⟩
      have Z2 := (((Blk.new w 56 #[.int .i64 0, .int .i64 0, .bool false, .int .i64 0, .int .i64 0]).alloc (.cells #[.int .i64 0, .int .i64 0] 28)).below q (by simp; omega))
      have Z3 : Blk w2 (w.heap.size + 1) 28 #[.int .i64 0, .int .i64 0] := by simpa using (((Blk.new (w.alloc (.cells #[.int .i64 0, .int .i64 0, .bool false, .int .i64 0, .int .i64 0] 56)) 28 #[.int .i64 0, .int .i64 0])).below q (by simp))
      have z20 := Z2.cell 0
      have z21 := Z2.cell 1
      have z22 := Z2.cell 2
      have z23 := Z2.cell 3
      have z24 := Z2.cell 4
      have f2 := fun i => Z2.frozen i
      have z30 := Z3.cell 0
      have z31 := Z3.cell 1
      have f3 := fun i => Z3.frozen i
      have hl2 := Z2.lt
      have hl3 := Z3.lt
      simp only [List.getElem?_toArray, List.getElem?_cons_zero, List.getElem?_cons_succ] at z20 z21 z22 z23 z24 z30 z31
      have BB := Lib.hid (bthen (bal (bal (Below.refl _ w) _) _) q)
      have RK := Lib.hid Z2
      have EK := Lib.hid Z3
      clear Z2 Z3 q
      have hni : ((n - size : Nat) : Int) = (n : Int) - size := by omega
      by_cases hsh : n - size < len
      · rw [if_pos hsh] at HN
        have hshi : (n : Int) - size < len := by omega
        clear hni
        go_wp2_with fail
        exact bodyPost_ret (v := .tuple #[.agg #[.int .i64 0, .int .i64 0, .bool false, .int .i64 0, .int .i64 0], .slice none 0 0, .slice none 0 0, .agg #[.int .i64 1, .int .i64 n]]) (by simp [results, Try.results33, go_sem, z20, z21, z22, z23, z24, z30, z31, hl2, hl3]) rfl (ref_next_err HN.out (by repeat (first | with_reducible exact BB.out | with_reducible refine bal ?_ _ | with_reducible refine below_at ?_ _ _ | with_reducible refine below_at1 ?_ _ _ | with_reducible refine below_draw ?_)))
      · rw [if_neg hsh] at HN
        have hshi : (len : Int) ≤ (n : Int) - size := by omega
        have hlm : len ≤ n - size := by omega
        have HB1 := Lib.hid (bs_take HB.out hlm)
        have HB2 := Lib.hid (bs_drop HX0.out (i := size + len) (by omega))
        rw [← List.drop_drop] at HB2
        obtain ⟨T, hT⟩ : ∃ T, Hid (size + len = T) := ⟨_, rfl⟩
        rw [hT.out] at HB2
        have hsum : IntKind.i64.wrap ((size : Int) + len) = T := by have := hT.out; rw [IntKind.wrap_i64]; omega
        have hT1 : (size : Int) ≤ T := by have := hT.out; omega
        have hT2 : (T : Int) ≤ n := by have := hT.out; omega
        have hT3 : (T : Int) ≤ c := by have := hT.out; omega
        have hT4 : T - size = len := by have := hT.out; omega
        have hT5 : T ≤ c := by omega
        have hT6 : size ≤ T := by omega
        have hl0 : (0 : Int) ≤ len := by omega
        clear hni HB
        by_cases hcl : c = T
        · rw [if_pos hcl] at HB2
          have hnT : n = T := by omega
          rw [hnT, hcl, Nat.sub_self] at HB2
          rw [hcl, hT4] at HB1
          subst hcl
          subst hnT
          go_wp2_with fail
          clear HX HX0 HR hs1 hsh hl
          go_region_held3 (fun w' => w'.cell? ⟨w2.heap.size, 0, none⟩ = some (.int .i64 cls) ∧ w'.cell? ⟨w2.heap.size, 1, none⟩ = some (.int .i64 num) ∧ w'.cell? ⟨w2.heap.size, 2, none⟩ = some (.bool con) ∧ w'.cell? ⟨w2.heap.size, 3, none⟩ = some (.int .i64 len) ∧ w'.cell? ⟨w2.heap.size, 4, none⟩ = some (.int .i64 size))
            (first | exact ⟨(cell_in (by simp only [size_set])).trans rfl, (cell_in (by simp only [size_set])).trans rfl, (cell_in (by simp only [size_set])).trans rfl, (cell_in (by simp only [size_set])).trans rfl, (cell_in (by simp only [size_set])).trans rfl⟩ | go_keep)
            (first | fail)
          go_wp2_with fail
          exact bodyPost_ret (v := .tuple #[.agg #[.int .i64 cls, .int .i64 num, .bool con, .int .i64 len, .int .i64 size], .slice (some ⟨b, off' + size, none⟩) len len, .slice (some ⟨b, off', none⟩) 0 0, .agg #[.int .i64 0, .int .i64 0]]) (by simp [results, Try.results33, go_sem, z20, z21, z22, z23, z24, z30, z31, hl2, hl3]) rfl (ref_next_ok HN.out HB1.out HB2.out (by repeat (first | with_reducible exact BB.out | with_reducible refine bal ?_ _ | with_reducible refine below_at ?_ _ _ | with_reducible refine below_at1 ?_ _ _ | with_reducible refine below_draw ?_)))
        · rw [if_neg hcl] at HB2
          go_wp2_with fail
          clear HX HX0 HR hs1 hsh hl
          go_region_held3 (fun w' => w'.cell? ⟨w2.heap.size, 0, none⟩ = some (.int .i64 cls) ∧ w'.cell? ⟨w2.heap.size, 1, none⟩ = some (.int .i64 num) ∧ w'.cell? ⟨w2.heap.size, 2, none⟩ = some (.bool con) ∧ w'.cell? ⟨w2.heap.size, 3, none⟩ = some (.int .i64 len) ∧ w'.cell? ⟨w2.heap.size, 4, none⟩ = some (.int .i64 size))
            (first | exact ⟨(cell_in (by simp only [size_set])).trans rfl, (cell_in (by simp only [size_set])).trans rfl, (cell_in (by simp only [size_set])).trans rfl, (cell_in (by simp only [size_set])).trans rfl, (cell_in (by simp only [size_set])).trans rfl⟩ | go_keep)
            (first | fail)
          go_wp2_with fail
          exact bodyPost_ret (v := .tuple #[.agg #[.int .i64 cls, .int .i64 num, .bool con, .int .i64 len, .int .i64 size], .slice (some ⟨b, off' + size, none⟩) len (c - size), .slice (some ⟨b, off' + T, none⟩) (n - T) (c - T), .agg #[.int .i64 0, .int .i64 0]]) (by simp [results, Try.results33, go_sem, z20, z21, z22, z23, z24, z30, z31, hl2, hl3]) rfl (ref_next_ok HN.out HB1.out HB2.out (by repeat (first | with_reducible exact BB.out | with_reducible refine bal ?_ _ | with_reducible refine below_at ?_ _ _ | with_reducible refine below_at1 ?_ _ _ | with_reducible refine below_draw ?_)))
  · have HN : Hid (rdNext l = ⟨rdHead l, [], []⟩) := by show _ = _; unfold rdNext; rw [if_neg hq]
    have he := rdHead_err l hq
    rw [he] at HR HN
    generalize (rdHead l).code = C at *
    generalize (rdHead l).off = O at *
    have hC : ((C : Int) == 0) = false := by simp; omega
    have hC2 : ((C : Int) != 0) = true := by simp; omega
    unfold hdV erV noHd at HR
    clear hq he
    go_enter Try.func33, Try.ntmps33
    go_wp2_with fail
    refine (HR.out _ ((HX.out.alloc _).alloc _)).mono ?_
    rintro e w2 ⟨rfl, q⟩
    have Z2 := (((Blk.new w 56 #[.int .i64 0, .int .i64 0, .bool false, .int .i64 0, .int .i64 0]).alloc (.cells #[.int .i64 0, .int .i64 0] 28)).below q (by simp; omega))
    have Z3 : Blk w2 (w.heap.size + 1) 28 #[.int .i64 0, .int .i64 0] := by simpa using (((Blk.new (w.alloc (.cells #[.int .i64 0, .int .i64 0, .bool false, .int .i64 0, .int .i64 0] 56)) 28 #[.int .i64 0, .int .i64 0])).below q (by simp))
    have z20 := Z2.cell 0
    have z21 := Z2.cell 1
    have z22 := Z2.cell 2
    have z23 := Z2.cell 3
    have z24 := Z2.cell 4
    have f2 := fun i => Z2.frozen i
    have z30 := Z3.cell 0
    have z31 := Z3.cell 1
    have f3 := fun i => Z3.frozen i
    have hl2 := Z2.lt
    have hl3 := Z3.lt
    simp only [List.getElem?_toArray, List.getElem?_cons_zero, List.getElem?_cons_succ] at z20 z21 z22 z23 z24 z30 z31
    have BB := Lib.hid (bthen (bal (bal (Below.refl _ w) _) _) q)
    clear Z2 Z3 q
    go_wp2_with fail
    go_region
    go_wp2_with fail
    exact bodyPost_ret (v := .tuple #[.agg #[.int .i64 0, .int .i64 0, .bool false, .int .i64 0, .int .i64 0], .slice none 0 0, .slice none 0 0, .agg #[.int .i64 C, .int .i64 O]]) (by simp [results, Try.results33, go_sem, z20, z21, z22, z23, z24, z30, z31, hl2, hl3]) rfl (ref_next_err HN.out (by repeat (first | with_reducible exact BB.out | with_reducible refine bal ?_ _ | with_reducible refine below_at ?_ _ _ | with_reducible refine below_at1 ?_ _ _ | with_reducible refine below_draw ?_)))
theorem ref_next_any {w : World} {a : Option Addr} {n c : Nat} {l : List UInt8} (hx : Bs w a n c l) (hz : n ≤ 1000000) :
    Calls Try.prog 33 #[.slice a n c] w (RefNextPost w l) := ref_next_from hx (Below.refl _ _) hz
end Go.Proofs.Ytkkomaohcijhnaa
namespace Go.Proofs.Ytkkomaohcijhnaa
theorem Blk.two {w : World} {g : Nat} {t : TypeId} {x y : Value} (h : Blk w g t #[x, y]) (x' y' : Value) : Blk ((w.setCell ⟨g, 0, none⟩ x').setCell ⟨g, 1, none⟩ y') g t #[x', y'] := by
  simpa using (h.set_ 0 x').set_ 1 y'
theorem Blk.cells2 {w : World} {g : Nat} {t : TypeId} {x y : Value} (h : Blk w g t #[x, y]) : w.cell? ⟨g, 0, none⟩ = some x ∧ w.cell? ⟨g, 1, none⟩ = some y ∧ g < w.heap.size ∧ (∀ i, w.frozen? ⟨g, i, none⟩ = false) :=
  ⟨by simpa using h.cell 0, by simpa using h.cell 1, h.lt, h.frozen⟩
end Go.Proofs.Ytkkomaohcijhnaa
namespace Go.Proofs.Ytkkomaohcijhnaa
open Go.RowKit
theorem Blk.cellsE {w : World} {g : Nat} {t : TypeId} {a b c d e f : Value} (h : Blk w g t #[a, b, c, d, e, f]) : w.cell? ⟨g, 0, none⟩ = some a ∧ w.cell? ⟨g, 1, none⟩ = some b ∧ w.cell? ⟨g, 2, none⟩ = some c ∧ w.cell? ⟨g, 3, none⟩ = some d ∧ w.cell? ⟨g, 4, none⟩ = some e ∧ w.cell? ⟨g, 5, none⟩ = some f :=
  ⟨by simpa using h.cell 0, by simpa using h.cell 1, by simpa using h.cell 2, by simpa using h.cell 3, by simpa using h.cell 4, by simpa using h.cell 5⟩
theorem Blk.sixE {w : World} {g : Nat} {t : TypeId} {a b c d e f : Value} (h : Blk w g t #[a, b, c, d, e, f]) (a' b' c' d' e' f' : Value) :
    Blk ((((((w.setCell ⟨g, 0, none⟩ a').setCell ⟨g, 1, none⟩ b').setCell ⟨g, 2, none⟩ c').setCell ⟨g, 3, none⟩ d').setCell ⟨g, 4, none⟩ e').setCell ⟨g, 5, none⟩ f') g t #[a', b', c', d', e', f'] := by
  simpa using (((((h.set_ 0 a').set_ 1 b').set_ 2 c').set_ 3 d').set_ 4 e').set_ 5 f'
theorem Blk.farS {w : World} {g b : Nat} {t : TypeId} {cs : Array Value} (h : Blk w g t cs) (n : g ≠ b) (i : Nat) (v : Value) : Blk (w.setCell ⟨b, i, none⟩ v) g t cs := h.far (p := ⟨b, i, none⟩) n v
theorem belowS {A b : Nat} {w0 w : World} (h : Below A w0 w) (n : A ≤ b) (i : Nat) (v : Value) : Below A w0 (w.setCell ⟨b, i, none⟩ v) := h.setCell (p := ⟨b, i, none⟩) n v
theorem res8 {w0 w : World} {A H B : Nat} {tE tR : TypeId} {a0 a1 a2 a3 a4 a5 b0 b1 : Value} (hR : Blk w H tE #[a0, a1, a2, a3, a4, a5]) (hS : Blk w B tR #[b0, b1]) (n1 : H ≠ B) (n2 : B ≠ H) (hq : Below A w0 w) (h1 : A ≤ H) (h2 : A ≤ B) (v0 v1 v2 v3 v4 v5 u0 u1 : Value) :
    Blk ((((((((w.setCell ⟨H, 0, none⟩ v0).setCell ⟨H, 1, none⟩ v1).setCell ⟨H, 2, none⟩ v2).setCell ⟨H, 3, none⟩ v3).setCell ⟨H, 4, none⟩ v4).setCell ⟨H, 5, none⟩ v5).setCell ⟨B, 0, none⟩ u0).setCell ⟨B, 1, none⟩ u1) H tE #[v0, v1, v2, v3, v4, v5] ∧ Blk ((((((((w.setCell ⟨H, 0, none⟩ v0).setCell ⟨H, 1, none⟩ v1).setCell ⟨H, 2, none⟩ v2).setCell ⟨H, 3, none⟩ v3).setCell ⟨H, 4, none⟩ v4).setCell ⟨H, 5, none⟩ v5).setCell ⟨B, 0, none⟩ u0).setCell ⟨B, 1, none⟩ u1) B tR #[u0, u1] ∧ Below A w0 ((((((((w.setCell ⟨H, 0, none⟩ v0).setCell ⟨H, 1, none⟩ v1).setCell ⟨H, 2, none⟩ v2).setCell ⟨H, 3, none⟩ v3).setCell ⟨H, 4, none⟩ v4).setCell ⟨H, 5, none⟩ v5).setCell ⟨B, 0, none⟩ u0).setCell ⟨B, 1, none⟩ u1) :=
  ⟨((hR.sixE v0 v1 v2 v3 v4 v5).farS n1 0 u0).farS n1 1 u1, ((((((hS.farS n2 0 v0).farS n2 1 v1).farS n2 2 v2).farS n2 3 v3).farS n2 4 v4).farS n2 5 v5).two u0 u1, belowS (belowS (belowS (belowS (belowS (belowS (belowS (belowS hq h1 0 v0) h1 1 v1) h1 2 v2) h1 3 v3) h1 4 v4) h1 5 v5) h2 0 u0) h2 1 u1⟩
theorem res8' {w0 w : World} {A H B : Nat} {tE tR : TypeId} {a0 a1 a2 a3 a4 a5 b0 b1 : Value} (hR : Blk w H tE #[a0, a1, a2, a3, a4, a5]) (hS : Blk w B tR #[b0, b1]) (n1 : H ≠ B) (n2 : B ≠ H) (hq : Below A w0 w) (h1 : A ≤ H) (h2 : A ≤ B) (v0 v1 v2 v3 v4 v5 u0 u1 : Value) :
    Blk ((((((((w.setCell ⟨B, 0, none⟩ u0).setCell ⟨B, 1, none⟩ u1).setCell ⟨H, 0, none⟩ v0).setCell ⟨H, 1, none⟩ v1).setCell ⟨H, 2, none⟩ v2).setCell ⟨H, 3, none⟩ v3).setCell ⟨H, 4, none⟩ v4).setCell ⟨H, 5, none⟩ v5) H tE #[v0, v1, v2, v3, v4, v5] ∧ Blk ((((((((w.setCell ⟨B, 0, none⟩ u0).setCell ⟨B, 1, none⟩ u1).setCell ⟨H, 0, none⟩ v0).setCell ⟨H, 1, none⟩ v1).setCell ⟨H, 2, none⟩ v2).setCell ⟨H, 3, none⟩ v3).setCell ⟨H, 4, none⟩ v4).setCell ⟨H, 5, none⟩ v5) B tR #[u0, u1] ∧ Below A w0 ((((((((w.setCell ⟨B, 0, none⟩ u0).setCell ⟨B, 1, none⟩ u1).setCell ⟨H, 0, none⟩ v0).setCell ⟨H, 1, none⟩ v1).setCell ⟨H, 2, none⟩ v2).setCell ⟨H, 3, none⟩ v3).setCell ⟨H, 4, none⟩ v4).setCell ⟨H, 5, none⟩ v5) :=
  ⟨((hR.farS n1 0 u0).farS n1 1 u1).sixE v0 v1 v2 v3 v4 v5, ((((((hS.two u0 u1).farS n2 0 v0).farS n2 1 v1).farS n2 2 v2).farS n2 3 v3).farS n2 4 v4).farS n2 5 v5, belowS (belowS (belowS (belowS (belowS (belowS (belowS (belowS hq h2 0 u0) h2 1 u1) h1 0 v0) h1 1 v1) h1 2 v2) h1 3 v3) h1 4 v4) h1 5 v5⟩
theorem one_err {l : List UInt8} (h : (rdNext l).h.code ≠ 0) : oneR l = ⟨el0, (rdNext l).h.code, (rdNext l).h.off⟩ := by unfold oneR; rw [if_neg h]
theorem one_more {l : List UInt8} (h : (rdNext l).h.code = 0) (h2 : (rdNext l).rest.length ≠ 0) : oneR l = ⟨el0, 2, elN l⟩ := by unfold oneR; rw [if_pos h, if_neg h2]
theorem one_all {l : List UInt8} (h : (rdNext l).h.code = 0) (h2 : (rdNext l).rest.length = 0) : oneR l = ⟨elOf (rdNext l).h 0, 0, 0⟩ := by unfold oneR; rw [if_pos h, if_pos h2]
set_option maxRecDepth 100000 in
set_option maxHeartbeats 8000000 in
theorem ref_one_any {w : World} {a : Option Addr} {n c : Nat} {l : List UInt8} (hx : Bs w a n c l) (hz : n ≤ 1000000) :
    Calls Try.prog 12 #[.slice a n c] w fun e w' => e = .returned (.tuple #[elV (oneR l).el, erV (oneR l).code (oneR l).off]) ∧ Below w.heap.size w w' := by
  have HX := Lib.hid (fun v (h : Bs v a n c l) => ref_next_any h hz)
  have hn0 : (n : Int) ≤ 1000000 := by omega
  have HLN := Lib.hid hx.len
  obtain ⟨w2, hw2⟩ : ∃ w2, (w.alloc (.cells #[.int .i64 0, .int .i64 0, .bool false, .int .i64 0, .int .i64 0, .int .i64 0] 25)).alloc (.cells #[.int .i64 0, .int .i64 0] 28) = w2 := ⟨_, rfl⟩
  obtain ⟨H, hH⟩ : ∃ H, w.heap.size = H := ⟨_, rfl⟩
  rw [hH]
  have R2 : Hid (Blk w2 H 25 #[.int .i64 0, .int .i64 0, .bool false, .int .i64 0, .int .i64 0, .int .i64 0]) := by
    rw [← hw2, ← hH]
    exact (Blk.new w 25 #[.int .i64 0, .int .i64 0, .bool false, .int .i64 0, .int .i64 0, .int .i64 0]).alloc _
  have S2 : Hid (Blk w2 (H + 1) 28 #[.int .i64 0, .int .i64 0]) := by
    rw [← hw2, ← hH]
    have := Blk.new (w.alloc (.cells #[.int .i64 0, .int .i64 0, .bool false, .int .i64 0, .int .i64 0, .int .i64 0] 25)) 28 #[.int .i64 0, .int .i64 0]
    rw [Hid]
    simpa using this
  have Q2 : Hid (Below H w w2) := by
    rw [← hw2, ← hH]
    exact bal (bal (Below.refl _ _) _) _
  have X2 : Hid (Bs w2 a n c l) := by
    rw [← hw2]
    exact (hx.alloc _).alloc _
  obtain ⟨B, hB⟩ : ∃ B, H + 1 = B := ⟨_, rfl⟩
  rw [hB] at S2
  have hHB : H ≤ B := by omega
  have nHB : H ≠ B := by omega
  have nBH : B ≠ H := by omega
  have L2 := Lib.hid S2.out.lt
  have M2 := Lib.hid R2.out.lt
  clear hx
  go_enter Try.func12, Try.ntmps12
  go_wp2_with fail
  with_reducible refine (HX.out _ X2.out).mono ?_
  rintro e w3 ⟨a1, c1, a2, c2, rfl, b1, b2, q⟩
  have R3 := Lib.hid (R2.out.below q M2.out)
  have S3 := Lib.hid (S2.out.below q L2.out)
  have Q3 : Hid (Below H w w3) := Q2.out.trans (q.mono (by have := M2.out; omega))
  obtain ⟨G, hG⟩ : ∃ G, w3.heap.size = G := ⟨_, rfl⟩
  have lB : B < G := by rw [← hG]; exact S3.out.lt
  have lH : H < G := by omega
  clear q b1 b2 hw2 hB R2 S2 Q2 X2 HX L2 M2 hH
  have hN := HLN.out
  clear HLN
  obtain ⟨w4, hw4⟩ : ∃ w4, (w3.alloc (.cells #[.int .i64 (rdNext l).h.cls, .int .i64 (rdNext l).h.num, .bool (rdNext l).h.con, .int .i64 (rdNext l).h.len, .int .i64 (rdNext l).h.size] 56)).alloc (.cells #[.int .i64 (rdNext l).h.code, .int .i64 (rdNext l).h.off] 28) = w4 := ⟨_, rfl⟩
  obtain ⟨D, hD⟩ : ∃ D, G + 1 = D := ⟨_, rfl⟩
  have R4 : Hid (Blk w4 H 25 #[.int .i64 0, .int .i64 0, .bool false, .int .i64 0, .int .i64 0, .int .i64 0]) := by
    rw [← hw4]
    exact (R3.out.alloc _).alloc _
  have S4 : Hid (Blk w4 B 28 #[.int .i64 0, .int .i64 0]) := by
    rw [← hw4]
    exact (S3.out.alloc _).alloc _
  have Q4 : Hid (Below H w w4) := by
    rw [← hw4]
    exact (Q3.out.alloc (by omega) _).alloc (by simp; omega) _
  have H4 : Hid (Blk w4 G 56 #[.int .i64 (rdNext l).h.cls, .int .i64 (rdNext l).h.num, .bool (rdNext l).h.con, .int .i64 (rdNext l).h.len, .int .i64 (rdNext l).h.size]) := by
    rw [← hw4, ← hG]
    exact (Blk.new w3 56 #[.int .i64 (rdNext l).h.cls, .int .i64 (rdNext l).h.num, .bool (rdNext l).h.con, .int .i64 (rdNext l).h.len, .int .i64 (rdNext l).h.size]).alloc _
  have E4 : Hid (Blk w4 D 28 #[.int .i64 (rdNext l).h.code, .int .i64 (rdNext l).h.off]) := by
    rw [← hw4, ← hD, ← hG]
    have := Blk.new (w3.alloc (.cells #[.int .i64 (rdNext l).h.cls, .int .i64 (rdNext l).h.num, .bool (rdNext l).h.con, .int .i64 (rdNext l).h.len, .int .i64 (rdNext l).h.size] 56)) 28 #[.int .i64 (rdNext l).h.code, .int .i64 (rdNext l).h.off]
    rw [Hid]
    simpa using this
  have nHD : H ≠ D := by omega
  have nBD : B ≠ D := by omega
  have nHG : H ≠ G := by omega
  have nBG : B ≠ G := by omega
  have HW4 := Lib.hid hw4
  have HDD := Lib.hid hD
  clear R3 S3 Q3 hw4 hD
  unfold hdV erV
  go_upto_region 2 with fail
  rw [HW4.out, HDD.out]
  clear HW4 HDD hG
  by_cases hc : (rdNext l).h.code = 0
  · have hbd := elN_bd hc
    have hrl := rest_len hc
    have hed : elN l = (rdNext l).h.size + (rdNext l).h.len := rfl
    by_cases hr : (rdNext l).rest.length = 0
    · have HO := Lib.hid (one_all hc hr)
      have hsum : (n : Int) = (rdNext l).h.size + (rdNext l).h.len := by omega
      have HSUM := Lib.hid hsum
      clear hbd hrl hed hsum
      generalize (rdNext l).h = hh at *
      obtain ⟨cl, nu, co, le, si, C, O⟩ := hh
      generalize (rdNext l).cont.length = m1 at *
      generalize (rdNext l).rest.length = m2 at *
      dsimp only at hc HO hr H4 E4 HSUM
      subst hc
      subst hr
      dsimp only
      obtain ⟨r0, r1, r2, r3, r4, r5⟩ := R4.out.cellsE
      obtain ⟨s0, s1, sl, sf⟩ := S4.out.cells2
      obtain ⟨e0, e1, dl, df⟩ := E4.out.cells2
      have rl := R4.out.lt
      have rf := R4.out.frozen
      have h0 : w4.cell? ⟨G, 0, none⟩ = some _ := H4.out.cell 0
      have h1 : w4.cell? ⟨G, 1, none⟩ = some _ := H4.out.cell 1
      have h2 : w4.cell? ⟨G, 2, none⟩ = some _ := H4.out.cell 2
      have h4 : w4.cell? ⟨G, 4, none⟩ = some _ := H4.out.cell 4
      clear H4 E4
      go_wp2_with fail
      have RF := Lib.hid (res8 R4.out S4.out nHB nBH Q4.out (Nat.le_refl H) hHB (.int .i64 cl) (.int .i64 nu) (.bool co) (.int .i64 0) (.int .i64 si) (.int .i64 n) (.int .i64 0) (.int .i64 0))
      obtain ⟨K1, K2, K3⟩ := Hid.out RF
      obtain ⟨y0, y1, y2, y3, y4, y5⟩ := K1.cellsE
      obtain ⟨x0, x1, xl, xf⟩ := K2.cells2
      clear xl xf
      generalize ((((((((w4.setCell ⟨H, 0, none⟩ (.int .i64 cl)).setCell ⟨H, 1, none⟩ (.int .i64 nu)).setCell ⟨H, 2, none⟩ (.bool co)).setCell ⟨H, 3, none⟩ (.int .i64 0)).setCell ⟨H, 4, none⟩ (.int .i64 si)).setCell ⟨H, 5, none⟩ (.int .i64 n)).setCell ⟨B, 0, none⟩ (.int .i64 0)).setCell ⟨B, 1, none⟩ (.int .i64 0)) = w9 at *
      exact bodyPost_ret (v := .tuple #[.agg #[.int .i64 cl, .int .i64 nu, .bool co, .int .i64 0, .int .i64 si, .int .i64 n], .agg #[.int .i64 0, .int .i64 0]]) (by simp [results, Try.results12, go_sem, y0, y1, y2, y3, y4, y5, x0, x1]) rfl ⟨by rw [HO.out, HSUM.out]; simp [elOf, elV, erV], by first | exact K3 | exact below_drewN K3 1⟩
    · have HO := Lib.hid (one_more hc hr)
      have hdif : IntKind.i64.wrap ((n : Int) - ((rdNext l).rest.length : Nat)) = elN l := by rw [IntKind.wrap_i64]; omega
      have hpos : (0 : Int) < ((rdNext l).rest.length : Nat) := by omega
      clear hbd hrl hed
      generalize elN l = e at *
      generalize (rdNext l).h = hh at *
      obtain ⟨cl, nu, co, le, si, C, O⟩ := hh
      generalize (rdNext l).cont.length = m1 at *
      generalize (rdNext l).rest.length = m2 at *
      dsimp only at hc HO H4 E4
      subst hc
      dsimp only
      obtain ⟨r0, r1, r2, r3, r4, r5⟩ := R4.out.cellsE
      obtain ⟨s0, s1, sl, sf⟩ := S4.out.cells2
      obtain ⟨e0, e1, dl, df⟩ := E4.out.cells2
      have rl := R4.out.lt
      have rf := R4.out.frozen
      have h0 : w4.cell? ⟨G, 0, none⟩ = some _ := H4.out.cell 0
      have h1 : w4.cell? ⟨G, 1, none⟩ = some _ := H4.out.cell 1
      have h2 : w4.cell? ⟨G, 2, none⟩ = some _ := H4.out.cell 2
      have h4 : w4.cell? ⟨G, 4, none⟩ = some _ := H4.out.cell 4
      clear H4 E4
      go_wp2_with fail
      have RF := Lib.hid (res8 R4.out S4.out nHB nBH Q4.out (Nat.le_refl H) hHB (.int .i64 0) (.int .i64 0) (.bool false) (.int .i64 0) (.int .i64 0) (.int .i64 0) (.int .i64 2) (.int .i64 e))
      obtain ⟨K1, K2, K3⟩ := Hid.out RF
      obtain ⟨y0, y1, y2, y3, y4, y5⟩ := K1.cellsE
      obtain ⟨x0, x1, xl, xf⟩ := K2.cells2
      clear xl xf
      generalize ((((((((w4.setCell ⟨H, 0, none⟩ (.int .i64 0)).setCell ⟨H, 1, none⟩ (.int .i64 0)).setCell ⟨H, 2, none⟩ (.bool false)).setCell ⟨H, 3, none⟩ (.int .i64 0)).setCell ⟨H, 4, none⟩ (.int .i64 0)).setCell ⟨H, 5, none⟩ (.int .i64 0)).setCell ⟨B, 0, none⟩ (.int .i64 2)).setCell ⟨B, 1, none⟩ (.int .i64 e)) = w9 at *
      exact bodyPost_ret (v := .tuple #[.agg #[.int .i64 0, .int .i64 0, .bool false, .int .i64 0, .int .i64 0, .int .i64 0], .agg #[.int .i64 2, .int .i64 e]]) (by simp [results, Try.results12, go_sem, y0, y1, y2, y3, y4, y5, x0, x1]) rfl ⟨by rw [HO.out]; rfl, by first | exact K3 | exact below_drewN K3 1⟩
  · have HO := Lib.hid (one_err hc)
    generalize (rdNext l).h = hh at *
    obtain ⟨cl, nu, co, le, si, C, O⟩ := hh
    generalize (rdNext l).cont.length = m1 at *
    generalize (rdNext l).rest.length = m2 at *
    dsimp only at hc HO H4 E4
    dsimp only
    have hcb : ((C : Int) != 0) = true := by rw [bne_iff_ne]; omega
    obtain ⟨r0, r1, r2, r3, r4, r5⟩ := R4.out.cellsE
    obtain ⟨s0, s1, sl, sf⟩ := S4.out.cells2
    obtain ⟨e0, e1, dl, df⟩ := E4.out.cells2
    have rl := R4.out.lt
    have rf := R4.out.frozen
    have h0 : w4.cell? ⟨G, 0, none⟩ = some _ := H4.out.cell 0
    have h1 : w4.cell? ⟨G, 1, none⟩ = some _ := H4.out.cell 1
    have h2 : w4.cell? ⟨G, 2, none⟩ = some _ := H4.out.cell 2
    have h4 : w4.cell? ⟨G, 4, none⟩ = some _ := H4.out.cell 4
    clear H4 E4
    go_wp2_with fail
    go_region
    all_goals
      try go_wp2_with fail
      have RF := Lib.hid (res8 R4.out S4.out nHB nBH Q4.out (Nat.le_refl H) hHB (.int .i64 0) (.int .i64 0) (.bool false) (.int .i64 0) (.int .i64 0) (.int .i64 0) (.int .i64 C) (.int .i64 O))
      have RG := Lib.hid (res8' R4.out S4.out nHB nBH Q4.out (Nat.le_refl H) hHB (.int .i64 0) (.int .i64 0) (.bool false) (.int .i64 0) (.int .i64 0) (.int .i64 0) (.int .i64 C) (.int .i64 O))
      first
      | (obtain ⟨K1, K2, K3⟩ := Hid.out RF; obtain ⟨y0, y1, y2, y3, y4, y5⟩ := K1.cellsE; obtain ⟨x0, x1, xl, xf⟩ := K2.cells2; clear xl xf; generalize ((((((((w4.setCell ⟨H, 0, none⟩ (.int .i64 0)).setCell ⟨H, 1, none⟩ (.int .i64 0)).setCell ⟨H, 2, none⟩ (.bool false)).setCell ⟨H, 3, none⟩ (.int .i64 0)).setCell ⟨H, 4, none⟩ (.int .i64 0)).setCell ⟨H, 5, none⟩ (.int .i64 0)).setCell ⟨B, 0, none⟩ (.int .i64 C)).setCell ⟨B, 1, none⟩ (.int .i64 O)) = w9 at *; exact bodyPost_ret (v := .tuple #[.agg #[.int .i64 0, .int .i64 0, .bool false, .int .i64 0, .int .i64 0, .int .i64 0], .agg #[.int .i64 C, .int .i64 O]]) (by simp [results, Try.results12, go_sem, y0, y1, y2, y3, y4, y5, x0, x1]) rfl ⟨by rw [HO.out]; rfl, by first | exact K3 | exact below_drewN K3 1⟩)
      | (obtain ⟨K1, K2, K3⟩ := Hid.out RG; obtain ⟨y0, y1, y2, y3, y4, y5⟩ := K1.cellsE; obtain ⟨x0, x1, xl, xf⟩ := K2.cells2; clear xl xf; generalize ((((((((w4.setCell ⟨B, 0, none⟩ (.int .i64 C)).setCell ⟨B, 1, none⟩ (.int .i64 O)).setCell ⟨H, 0, none⟩ (.int .i64 0)).setCell ⟨H, 1, none⟩ (.int .i64 0)).setCell ⟨H, 2, none⟩ (.bool false)).setCell ⟨H, 3, none⟩ (.int .i64 0)).setCell ⟨H, 4, none⟩ (.int .i64 0)).setCell ⟨H, 5, none⟩ (.int .i64 0)) = w9 at *; exact bodyPost_ret (v := .tuple #[.agg #[.int .i64 0, .int .i64 0, .bool false, .int .i64 0, .int .i64 0, .int .i64 0], .agg #[.int .i64 C, .int .i64 O]]) (by simp [results, Try.results12, go_sem, y0, y1, y2, y3, y4, y5, x0, x1]) rfl ⟨by rw [HO.out]; rfl, by first | exact K3 | exact below_drewN K3 1⟩)
end Go.Proofs.Ytkkomaohcijhnaa
namespace Go.Proofs.Ytkkomaohcijhnaa
open Go.RowKit
theorem blk_other {w wr : World} {g t n c : Nat} {a : Option Addr} {cs : Array Value} (O : Blk w g t cs) (G : w.grownBy wr (Value.ownBlock (.slice a n c))) (h : ∀ y, a = some y → g ≠ y.block) : Blk wr g t cs :=
  O.keep (G.block g O.lt (fun e => by
    cases a with
    | none => simp [Value.ownBlock] at e
    | some y => simp [Value.ownBlock] at e; exact h y rfl e))
end Go.Proofs.Ytkkomaohcijhnaa
