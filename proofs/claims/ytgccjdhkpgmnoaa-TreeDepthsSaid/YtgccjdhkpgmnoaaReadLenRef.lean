/-
  Contract of the reference implementation's ReadLength.
-/
import Derived.Test.YtgccjdhkpgmnoaaLength
import Derived.Test.YtgccjdhkpgmnoaaNumRef
import Derived.Test.YtgccjdhkpgmnoaaRefCmp
import Derived.Test.YtgccjdhkpgmnoaaRetLen
namespace Go.Proofs.Ytgccjdhkpgmnoaa
open Go.RowKit

set_option maxRecDepth 100000 in
set_option maxHeartbeats 1000000 in
theorem ref_readLength_any {w : World} {a : Option Addr} {n c : Nat} {l : List UInt8} (hx : Bs w a n c l) :
    Calls Try.prog 62 #[.slice a n c] w fun e w' => e = .returned (.tuple #[.int .i64 (rdLen l).n, .int .i64 (rdLen l).size, .agg #[.int .i64 (rdLen l).code, .int .i64 (rdLen l).off]]) ∧ Below w.heap.size w w' := by
  have HX := Lib.hid hx
  have hn : n ≤ 9223372036854775807 := by have := hx.2.1; have := hx.2.2.1; unfold maxLen at this; omega
  have hnc := hx.2.1
  have hl := hx.len
  clear hx
  rcases l with _ | ⟨x, r⟩
  · simp only [List.length_nil] at hl
    subst hl
    go_enter Try.func62, Try.ntmps62
    go_wp2
    exact bodyPost_ret (v := .tuple #[.int .i64 0, .int .i64 0, .agg #[.int .i64 1, .int .i64 0]]) (by simp [results, Try.results62, go_sem]) rfl ⟨rfl, bal (Below.refl _ _) _⟩
  · simp only [List.length_cons] at hl
    obtain ⟨b, off, _, rfl, hb, hc⟩ := HX.out.at_ (i := 0) (by omega)
    simp only [List.getElem_cons_zero, Nat.add_zero] at hc
    have hxb := byte_bd x
    have hn1 : 0 < n := by omega
    have hn2 : 0 < (n : Int) := by omega
    have hn3 : ((n : Int) == 0) = false := by simp; omega
    by_cases hs : (x.toNat : Int) < 128
    · have HR := Lib.hid (rdLen_short (x := x) (r := r) (by omega))
      clear hl
      go_enter Try.func62, Try.ntmps62
      go_wp2
      exact bodyPost_ret (v := .tuple #[.int .i64 x.toNat, .int .i64 1, .agg #[.int .i64 0, .int .i64 0]]) (by simp [results, Try.results62, go_sem]) rfl ⟨ret_rl HR.out, bal (Below.refl _ _) _⟩
    · by_cases hw : x.toNat = 128 ∨ 132 < x.toNat
      · have HR := Lib.hid (rdLen_bad (x := x) (r := r) hw)
        clear hl
        rcases hw with hw | hw
        · have hx8 : ((x.toNat : Int) - 128 == 0) = true := by simp; omega
          clear hw
          go_enter Try.func62, Try.ntmps62
          go_wp2
          exact bodyPost_ret (v := .tuple #[.int .i64 0, .int .i64 0, .agg #[.int .i64 4, .int .i64 0]]) (by simp [results, Try.results62, go_sem]) rfl ⟨ret_rl HR.out, bal (Below.refl _ _) _⟩
        · have hx8 : ((x.toNat : Int) - 128 == 0) = false := by simp; omega
          have hx9 : 5 ≤ (x.toNat : Int) - 128 := by omega
          clear hw
          go_enter Try.func62, Try.ntmps62
          go_wp2
          exact bodyPost_ret (v := .tuple #[.int .i64 0, .int .i64 0, .agg #[.int .i64 4, .int .i64 0]]) (by simp [results, Try.results62, go_sem]) rfl ⟨ret_rl HR.out, bal (Below.refl _ _) _⟩
      · obtain ⟨d, hd⟩ : ∃ d, x.toNat = 128 + d := ⟨x.toNat - 128, by omega⟩
        have hd1 : 1 ≤ d := by omega
        have hd4 : d ≤ 4 := by omega
        have HR := Lib.hid (rdLen_long (x := x) (r := r) hd hd1 hd4)
        have hdi : ((x.toNat : Int) - 128) = d := by omega
        have hd5 : ((d : Int) == 0) = false := by simp; omega
        have HD := Lib.hid hd
        clear hw hd
        by_cases hsh : n < d + 1
        · rw [if_pos (by omega)] at HR
          have hsh2 : (n : Int) < 1 + d := by omega
          have e : ((n : Int)) = ((r.length + 1 : Nat) : Int) := by omega
          have HE := Lib.hid e
          clear hl e hsh
          go_enter Try.func62, Try.ntmps62
          go_wp2
          exact bodyPost_ret (v := .tuple #[.int .i64 0, .int .i64 0, .agg #[.int .i64 1, .int .i64 n]]) (by simp [results, Try.results62, go_sem]) rfl ⟨by rw [HE.out]; exact ret_rl HR.out, bal (Below.refl _ _) _⟩
        · rw [if_neg (by omega)] at HR
          have hsh2 : 1 + (d : Int) ≤ n := by omega
          have hc1 : ¬ c = 1 := by omega
          have HU := Lib.hid (bs_mid HX.out (i := 1) (m := d) (by omega) (by omega))
          have hrd : ((x :: r).drop 1).take d = r.take d := rfl
          rw [hrd] at HU
          have HT := Lib.hid (bs_take HX.out (m := 1 + d) (by omega))
          obtain ⟨N, hN⟩ : ∃ N, Hid (bnum (r.take d) = N) := ⟨_, rfl⟩
          rw [hN.out] at HR
          have hN32 : N < 4294967296 := by
            rw [← hN.out]
            have h1 := bnum_lt (r.take d)
            have h2 : 256 ^ (r.take d).length ≤ 256 ^ 4 := Nat.pow_le_pow_right (by omega) (by simp; omega)
            have h4 : (256 : Nat) ^ 4 = 4294967296 := by decide
            omega
          have hu := uval_lt hN.out (show N < two64 by unfold two64; omega)
          have huo := uok_lt hN.out (show N < two64 by unfold two64; omega)
          have HUn := Lib.hid (fun w (h : Bs w (some ⟨b, off + 1, none⟩) d (c - 1) (r.take d)) => ref_uint_any h)
          rw [← hu, ← huo] at HUn
          have hw : wrap64 (N : Int) = N := by unfold wrap64; omega
          have HN32 := Lib.hid hN32
          have HLN : Hid (d ≤ r.length) := by show _ ≤ _; omega
          clear hrd hl hsh hu huo hN32
          go_enter Try.func62, Try.ntmps62
          generalize hK : (2147483647 : Int) = K
          have HK := Lib.hid hK
          clear hK
          go_wp2_with fail
          refine (HUn.out _ (HU.out.alloc _)).mono ?_
          rintro e w1 ⟨rfl, rfl⟩
          by_cases hNM : N ≤ 2147483647
          · have hNK : (N : Int) ≤ K := by have := HK.out; omega
            have HNM := Lib.hid hNM
            clear hNM
            go_wp2_with fail
            refine (ref_length_ok HNM.out _).mono ?_
            rintro e w2 ⟨a2, c2, rfl, ho, q⟩
            have HO := Lib.hid ho.bs
            have HT2 := Lib.hid ((HT.out.alloc _).below q)
            have Z := (Blk.new w 29 #[.int .i64 0, .int .i64 0]).below q (by simp)
            have hR3 := Z.lt
            have z0 := Z.cell 0
            have z1 := Z.cell 1
            have f0 := Z.frozen 0
            have f1 := Z.frozen 1
            simp only [List.getElem?_toArray, List.getElem?_cons_zero, List.getElem?_cons_succ] at z0 z1
            have BB3 := Lib.hid (bthen (bal (Below.refl _ w) _) q)
            clear Z q ho
            go_wp2_with fail
            refine (ref_compare_any HO.out HT2.out).mono ?_
            rintro e w3 ⟨rfl, k, rfl⟩
            have etake : (x :: r).take (1 + d) = x :: r.take d := by rw [Nat.add_comm]; rfl
            rw [etake]
            clear etake
            by_cases he : lenOct N = x :: r.take d
            · have hz : lex (lenOct N) (x :: r.take d) = 0 := (lex_zero _ _).2 he
              rw [hz]
              rw [if_pos ⟨HNM.out, by rw [he]; have := HLN.out; simp; omega⟩] at HR
              clear hz he
              go_wp2_with fail
              exact bodyPost_ret (v := .tuple #[.int .i64 N, .int .i64 (1 + d), .agg #[.int .i64 0, .int .i64 0]]) (by simp [results, Try.results62, go_sem, z0, z1, hw]) rfl ⟨by rw [show (1 : Int) + d = ((d + 1 : Nat) : Int) from by omega]; exact ret_rl HR.out, below_pair (below_drewN BB3.out _) _ _⟩
            · obtain ⟨z, ez⟩ : ∃ z, lex (lenOct N) (x :: r.take d) = z := ⟨_, rfl⟩
              have hz : (z != 0) = true := by
                rw [← ez]
                simp
                exact fun h => he ((lex_zero _ _).1 h)
              rw [ez]
              rw [if_neg (fun h => he (lenOct_read HD.out HLN.out hd1 hN.out h.2 h.1))] at HR
              clear he ez
              go_wp2_with fail
              exact bodyPost_ret (v := .tuple #[.int .i64 0, .int .i64 0, .agg #[.int .i64 4, .int .i64 0]]) (by simp [results, Try.results62, go_sem, z0, z1]) rfl ⟨ret_rl HR.out, below_pair (below_drewN BB3.out _) _ _⟩
          · have hNK : K < (N : Int) := by have := HK.out; omega
            rw [if_neg (fun h => hNM h.1)] at HR
            clear hNM
            go_wp2
            exact bodyPost_ret (v := .tuple #[.int .i64 0, .int .i64 0, .agg #[.int .i64 4, .int .i64 0]]) (by simp [results, Try.results62, go_sem]) rfl ⟨ret_rl HR.out, bal (Below.refl _ _) _⟩
end Go.Proofs.Ytgccjdhkpgmnoaa
