/-
  Contract of the program's octets: the contents octets of a string of characters.
-/
import Derived.Test.YtkmpmphabohkkaaDoorChAll
import Derived.Test.YtkmpmphabohkkaaDoorChEnc
import Derived.Test.YtkmpmphabohkkaaDoorChBld
namespace Go.Proofs.YtkmpmphabohkkaaDoor
open Go.RowKit

theorem own_iter {w : World} {B k : Nat} {e : TypeId} {a : Option Addr} {n c : Nat} {l : List UInt8} {s : ByteArray} {pos : Nat} (h : Own w B e a n c l) (hk : w.heap[k]? = some (.stringIter s pos)) (p : Nat) : Own (w.iterAt k s p) B e a n c l := by
  refine ⟨h.1, h.2.imp id ?_⟩
  rintro ⟨g, cap, cur, h1, h2, h3, h4⟩
  refine ⟨g, cap, cur, h1, h2, ?_, h4⟩
  rw [Lib.iterAt_other w k g s p (fun e => by subst e; rw [hk] at h3; cases h3)]
  exact h3
theorem iter_grown {w w' : World} {B k : Nat} {a : Option Addr} {n c : Nat} {l : List UInt8} {s : ByteArray} {pos : Nat} (hg : w.grownBy w' (Value.ownBlock (.slice a n c))) (h : Own w B 5 a n c l) (hk : w.heap[k]? = some (.stringIter s pos)) : w'.heap[k]? = some (.stringIter s pos) := by
  refine (hg.block k (Array.getElem?_eq_some_iff.1 hk).1 (fun e => ?_)).trans hk
  obtain ⟨cs, fz, h1⟩ := own_block h k e.symm
  rw [hk] at h1
  cases h1
theorem bs_conv {w w1 : World} {s : List UInt8} {cap : Nat} (hz : s.length ≤ cap) (hc : cap ≤ maxLen) {fz : Nat × Nat} (hw : w1 = w.drew.alloc (.cells (bytesRow ⟨s.toArray⟩ cap) 5 fz)) : Bs w1 (some ⟨w.heap.size, 0, none⟩) s.length cap s := by
  subst hw
  refine ⟨rfl, hz, hc, fun _ => ⟨_, _, rfl, by simp, fun i hi => ?_⟩⟩
  have hb : (w.drew.alloc (.cells (bytesRow ⟨s.toArray⟩ cap) 5 fz)).heap[w.heap.size]? = some (.cells (bytesRow ⟨s.toArray⟩ cap) 5 fz) := (MapKept.heap_alloc w.drew _).1
  rw [Lib.cell_of_heap hb, Nat.zero_add, bytesRow_at ⟨s.toArray⟩ cap i hi]
  rfl
theorem by8_mod (n : Nat) : (by8 n).toNat = n % 256 := by unfold by8; rw [UInt8.toNat_ofNat']
theorem blk_ne8 {w : World} {n B : Nat} {a : Option Addr} {m c : Nat} {l : List UInt8} {cs : Array Value} {t : TypeId} (ht : t ≠ 5) (hb : Blk w B t cs) (h : Own w n 5 a m c l) : (Value.slice a m c).ownBlock ≠ some B := by
  intro e
  obtain ⟨cs', fz, h1⟩ := own_block h B e
  unfold Blk at hb
  rw [hb] at h1
  injection h1 with h1
  injection h1 with _ h2
  exact ht h2
theorem octL_len4 (w : Int) (h1 : w = 1 ∨ w = 2 ∨ w = 4) (L : List Nat) : (octL w L).length = w.toNat * L.length := by
  induction L with
  | nil => simp [octL_nil]
  | cons x L ih => rw [octL_cons, List.length_append, ih, octW_len h1, List.length_cons, Nat.mul_succ]; omega

set_option maxRecDepth 100000 in
theorem octs_0 (F : Value) (s : List UInt8) (hz : s.length ≤ 1000000) (w : World) :
    Calls Tryd.prog 29 #[.agg #[F, .int .i64 0], .string ⟨s.toArray⟩] w fun e w' => ∃ a c, e = .returned (.slice a s.length c) ∧ Bs w' a s.length c s ∧ Below w.heap.size w w' := by
  obtain ⟨R, hR⟩ : ∃ R, w.heap.size = R := ⟨_, rfl⟩
  have Z1 := Lib.hid (Blk.new w 47 #[F, .int .i64 0])
  rw [hR] at Z1
  have Q1 := Lib.hid (bal (Below.refl w.heap.size w) (.cells #[F, .int .i64 0] 47))
  go_enter Tryd.func29, Tryd.ntmps29
  go_wp2_with fail
  generalize w.alloc (.cells #[F, .int .i64 0] 47) = w1 at *
  obtain ⟨z0, z1, zl, zf⟩ := Z1.out.cells2
  have hcv := run_bytes_of_string w1 9 25 5 ⟨s.toArray⟩ Tryd.underlying9 Tryd.underlying25 Tryd.underlying5
  have hs : (⟨s.toArray⟩ : ByteArray).size = s.length := rfl
  rw [hs] at hcv
  have hge := grownCap_ge w1 s.length 0 5
  have hle := grownCap_le_maxLen w1 s.length 0 5 (by unfold maxLen; omega)
  generalize grownCap w1 s.length 0 5 = cap at *
  obtain ⟨w2, hw2⟩ : ∃ w2, w1.drew.alloc (.cells (bytesRow ⟨s.toArray⟩ cap) 5 ((bytesRow ⟨s.toArray⟩ cap).size, (bytesRow ⟨s.toArray⟩ cap).size + 1)) = w2 := ⟨_, rfl⟩
  have B2 := Lib.hid (bs_conv hge hle hw2.symm)
  have Q2 : Hid (Below w.heap.size w w2) := by rw [← hw2]; exact bal Q1.out.drew _
  rw [hw2] at hcv
  clear hw2 hge hle hs
  go_wp2_with fail
  rw [hcv]
  simp only [Result.andThen]
  rw [Oper.upon_value]
  go_wp2_with fail
  go_ret
  exact ⟨_, _, rfl, B2.out, Q2.out⟩

set_option maxRecDepth 100000 in
set_option maxHeartbeats 4000000 in
theorem octs_1 (F : Value) (L : List Nat) (hsc : L.all scal = true) (hz : (encU L).length ≤ 1000000) (w : World) :
    Calls Tryd.prog 29 #[.agg #[F, .int .i64 1], .string ⟨(encU L).toArray⟩] w fun e w' => ∃ a c, e = .returned (.slice a (octL 1 L).length c) ∧ Bs w' a (octL 1 L).length c (octL 1 L) ∧ Below w.heap.size w w' := by
  obtain ⟨i0, hi, hz0, hz1, hz2⟩ := info_parts info_u8
  obtain ⟨R, hR⟩ : ∃ R, w.heap.size = R := ⟨_, rfl⟩
  have Z1 := Lib.hid (Blk.new w 47 #[F, .int .i64 1])
  rw [hR] at Z1
  have Q1 := Lib.hid (bal (Below.refl w.heap.size w) (.cells #[F, .int .i64 1] 47))
  have hlen := encU_len L hsc
  obtain ⟨n, hn⟩ : ∃ n, L.length = n := ⟨_, rfl⟩
  have HRC : Hid (∀ w, Calls Tryd.prog 34 #[.string ⟨(encU L).toArray⟩] w fun e w' => e = .returned (.int .i64 n) ∧ Below w.heap.size w w') := by
    intro w
    refine (Tryd.utf8_RuneCountInString ⟨(encU L).toArray⟩ w (by show (encU L).length < _; omega)).mono ?_
    rintro e w' ⟨rfl, pos, rfl⟩
    rw [count_is hsc, hn]
    exact ⟨rfl, bal (Below.refl _ w) _⟩
  have HD := Lib.hid (fun j hj => dec_at hsc (j := j) hj)
  have HSC : Hid (∀ x ∈ L, scal x = true) := List.all_eq_true.1 hsc
  have HL := Lib.hid (fun j hj => octL_take (w := 1) (L := L) (j := j) hj)
  have HLL := Lib.hid (fun j => octL_len4 1 (by omega) (L.take j))
  rw [hn] at hlen
  have hn2 : (n : Int) ≤ 1000000 := by omega
  have hn0 : (0 : Int) ≤ n := by omega
  have HNN := Lib.hid hn
  have hb2 : i0.bytes * (n * 1) ≤ 281474976710656 := by rw [hz2]; omega
  have hb3 : n * 1 ≤ maxLen := by unfold maxLen; omega
  have hcast : ((n * 1 : Nat) : Int) = IntKind.i64.wrap ((n : Int)) := by rw [IntKind.wrap_i64]; omega
  clear hz hlen hsc hn
  go_enter Tryd.func29, Tryd.ntmps29
  go_wp2_with fail
  generalize w.alloc (.cells #[F, .int .i64 1] 47) = w1 at *
  obtain ⟨z0, z1, zl, zf⟩ := Z1.out.cells2
  go_wp2_with fail
  go_region_held3 (fun w' => w'.cell? ⟨R, 1, none⟩ = some (.int .i64 1)) (first | exact z1 | exact k1 | exact j1 | assumption)
    (first
     | (go_at_call 34; (with_reducible refine (HRC.out _).mono ?_); rintro e w2 ⟨rfl, q⟩; have Q2 := Lib.hid (bthen Q1.out.drew q); have Z2 := Lib.hid ((Z1.out.drewN 1).below q (Z1.out.drewN 1).lt); clear q; obtain ⟨k0, k1, kl, kf⟩ := Z2.out.cells2; obtain ⟨w3, hrun, hr1, hr2⟩ := run_make_own (P := Tryd.prog) w2 w.heap.size 25 5 i0 (.int .u8 0) 1 Tryd.underlying25 hi hz0 hz1 .i64 .i64 (n * 1) hb2 hb3 Q2.out.size; rw [hcast] at hrun; have Q3 := Lib.hid (Q2.out.grown hr2 Q2.out.size (fun k hk => by cases hk)); have Z3 : Hid (Blk w3 R 47 #[F, .int .i64 1]) := (hr2.block R Z2.out.lt (by simp)).trans Z2.out; obtain ⟨j0, j1, jl, jf⟩ := Z3.out.cells2))
  clear z0 z1 zl zf k0 k1 kl kf hrun hr2 hb2 hb3 hcast
  obtain ⟨I, hI⟩ : ∃ I, w3.heap.size = I := ⟨_, rfl⟩
  have HGE : Hid (w.heap.size ≤ I) := by rw [Hid, ← hI]; exact Q3.out.size
  have HNE : Hid (R ≠ I) := by rw [Hid, ← hI]; exact Nat.ne_of_lt Z3.out.lt
  rw [Nat.mul_one] at hr1
  have O3 := Lib.hid hr1
  clear hr1
  go_wp2_with fail
  go_loopw [5] (fun v wr => ∃ a c j, j ≤ n ∧ v = .slice a (octL 1 (L.take j)).length c ∧ Own wr w.heap.size 5 a (octL 1 (L.take j)).length c (octL 1 (L.take j)) ∧ wr.heap[I]? = some (.stringIter ⟨(encU L).toArray⟩ (encU (L.take j)).length) ∧ Blk wr R 47 #[F, .int .i64 1] ∧ Below w.heap.size w wr) (fun _ wr => (encU L).length - wr.iterPos I)
  case atStart =>
    refine ⟨_, _, 0, Nat.zero_le _, rfl, O3.out.alloc _, ?_, Z3.out.alloc _, bal Q3.out _⟩
    rw [← hI]
    exact World.iter_heap w3 _ 0
  case round =>
    obtain ⟨a, c, j, hj, rfl, ho, hit, hz, hq⟩ := hrel
    have hlt : I < wr.heap.size := (Array.getElem?_eq_some_iff.1 hit).1
    by_cases h : j < n
    · have h' : j < L.length := by rw [HNN.out]; exact h
      obtain ⟨d1, d2, d3⟩ := HD.out j h'
      have hnx := fun ty => Lib.run_next_any_at (P := Tryd.prog) wr I _ _ ty hit d1
      rw [d2] at hnx
      dsimp only at hnx
      rw [d3] at hnx
      have Q4 := Lib.hid (Lib.below_iterAt hq (k := I) HGE.out ⟨(encU L).toArray⟩ (encU (L.take (j + 1))).length)
      have Z4 : Hid (Blk (wr.iterAt I ⟨(encU L).toArray⟩ (encU (L.take (j + 1))).length) R 47 #[F, .int .i64 1]) := (Lib.iterAt_other wr I R _ _ HNE.out).trans hz
      have I4 := Lib.hid (Lib.iterAt_heap wr I ⟨(encU L).toArray⟩ (encU (L.take j)).length (encU (L.take (j + 1))).length hit)
      have O4 := Lib.hid (own_iter ho hit (encU (L.take (j + 1))).length)
      have M1 : Hid (wr.iterPos I = (encU (L.take j)).length) := by unfold Hid World.iterPos; rw [hit]
      have M2 : Hid ((encU (L.take j)).length < (encU (L.take (j + 1))).length ∧ (encU (L.take j)).length < (encU L).length) := ⟨by have hne := u8O_ne (HSC.out _ (List.getElem_mem h')); have hp : 0 < (u8O L[j]).length := List.length_pos_iff.2 hne; omega, d1⟩
      have HST := Lib.hid (HL.out j h')
      have hbd := scal_true.1 (HSC.out _ (List.getElem_mem h'))
      have HS4 : Hid (w.heap.size ≤ (wr.iterAt I ⟨(encU L).toArray⟩ (encU (L.take (j + 1))).length).heap.size) := Q4.out.size
      have hll := HLL.out j
      rw [List.length_take] at hll
      generalize wr.iterAt I ⟨(encU L).toArray⟩ (encU (L.take (j + 1))).length = w4 at *
      generalize hx : L[j] = x at *
      obtain ⟨NL, hNL⟩ : ∃ NL, (octL 1 (L.take j)).length = NL := ⟨_, rfl⟩
      have HNL := Lib.hid hNL
      rw [hNL] at O4 hll
      have hNL2 : NL ≤ 16000000 := by simp at hll; omega
      obtain ⟨z0, z1, zl, zf⟩ := Z4.out.cells2
      have hxi : (x : Int) ≤ 1114111 := by omega
      have hx0 : (0 : Int) ≤ x := by omega
      clear d1 d2 d3 hll hit ho hz hq
      go_wp2_with fail
      go_loopw [5, 8] (fun v i wr => ∃ a c m, m ≤ 1 ∧ i = .int .i64 ((1 : Int) - 1 - ((m : Nat) : Int)) ∧ v = .slice a (NL + m) c ∧ Own wr w.heap.size 5 a (NL + m) c (octL 1 (L.take j) ++ (octW 1 x).take m) ∧ wr.heap[I]? = some (.stringIter ⟨(encU L).toArray⟩ (encU (L.take (j + 1))).length) ∧ Blk wr R 47 #[F, .int .i64 1] ∧ Below w.heap.size w wr) (fun _ i _ => (intOf i + 1).toNat)
      case atStart =>
        refine ⟨a, c, 0, by omega, rfl, ?_, ?_, I4.out, Z4.out, Q4.out⟩
        · rw [HNL.out]; rfl
        · rw [List.take_zero, List.append_nil]; exact O4.out
      case round =>
        obtain ⟨a, c, m, hm, hi8, rfl, ho, hit, hz, hq⟩ := hrel
        have hsz : w.heap.size ≤ wr.heap.size := hq.size
        have O5 := Lib.hid ho
        have I5 := Lib.hid hit
        have Z5 := Lib.hid hz
        have Q5 := Lib.hid hq
        obtain ⟨z0, z1, zl, zf⟩ := Z5.out.cells2
        clear ho hit hz hq
        rcases (by omega : m = 0 ∨ m = 1) with rfl | rfl
        · have hi9 := hi8.trans (show Value.int .i64 ((1 : Int) - 1 - ((0 : Nat) : Int)) = .int .i64 0 from rfl)
          clear hi8
          subst hi9
          obtain ⟨b0, hb0⟩ : ∃ b0 : UInt8, by8 x = b0 := ⟨_, rfl⟩
          have e0 : (x : Int) % 256 = (b0.toNat : Int) := by rw [← hb0]; rw [by8_mod]; omega
          have HTK : Hid ((octW 1 x).take 1 = (octW 1 x).take 0 ++ [b0]) := by rw [← hb0]; rfl
          clear hb0
          have SX := Lib.hid ((lit1 (w := wr) b0).bs)
          have OX := Lib.hid (World.ownsRow.alloc O5.out (.cells #[.int .u8 b0.toNat] 5))
          have IX : Hid ((wr.alloc (.cells #[.int .u8 b0.toNat] 5)).heap[I]? = _) := (Below.heap_alloc wr _ I (Array.getElem?_eq_some_iff.1 I5.out).1).trans I5.out
          have ZX := Lib.hid (Z5.out.alloc (.cells #[.int .u8 b0.toNat] 5))
          have QX := Lib.hid (bal Q5.out (.cells #[.int .u8 b0.toNat] 5))
          have HSZ : w.heap.size ≤ (wr.alloc (.cells #[.int .u8 b0.toNat] 5)).heap.size := by simp; omega
          go_wp2_with (at_builtin; go_must (refine wpList_app _ rfl _ _ 25 rfl w.heap.size 5 i0 Tryd.underlying25 hi hz0 hz1 hz2 a (NL + 0) c _ rfl OX.out _ 1 1 [b0] rfl SX.out (by omega) HSZ ?_))
          intro a6 c6 w6 ho6 hg6
          have I6 := Lib.hid (iter_grown hg6 OX.out IX.out)
          have Z6 : Hid (Blk w6 R 47 #[F, .int .i64 1]) := (hg6.block R ZX.out.lt (fun e => blk_ne8 (by decide) ZX.out OX.out e.symm)).trans ZX.out
          have Q6 := Lib.hid (QX.out.trans (app_below OX.out hg6 (Nat.le_refl _) HSZ))
          have O6 : Hid (Own w6 w.heap.size 5 a6 (NL + 1) c6 (octL 1 (L.take j) ++ (octW 1 x).take 1)) := by rw [Hid, HTK.out]; simpa [hR, Nat.add_assoc] using ho6
          clear ho6 hg6
          go_wp2_with fail
          go_roundw
          case rel => exact ⟨a6, c6, 1, by omega, rfl, rfl, O6.out, I6.out, Z6.out, Q6.out⟩
          case measure => simp [intOf]
        · have hi9 := hi8.trans (show Value.int .i64 ((1 : Int) - 1 - ((1 : Nat) : Int)) = .int .i64 (-1) from rfl)
          clear hi8
          subst hi9
          have O6 : Hid (Own wr w.heap.size 5 a (octL 1 (L.take (j + 1))).length c (octL 1 (L.take (j + 1)))) := by
            have e1 : (octW 1 x).take 1 = octW 1 x := List.take_of_length_le (by rw [octW_len (by omega)]; decide)
            have h1 := O5.out
            rw [e1, ← HST.out] at h1
            have e2 : NL + 1 = (octL 1 (L.take (j + 1))).length := h1.bs.len.symm
            rw [← e2]
            exact h1
          have e2 : NL + 1 = (octL 1 (L.take (j + 1))).length := by
            rw [HST.out, List.length_append, HNL.out, octW_len (by omega)]; rfl
          go_wp2_with fail
          go_roundw
          case rel => exact ⟨a, c, j + 1, h, by rw [e2], O6.out, I5.out, Z5.out, Q5.out⟩
          case measure =>
            have e4 : wr.iterPos I = (encU (L.take (j + 1))).length := by unfold World.iterPos; rw [I5.out]
            rw [e4, M1.out]
            have := M2.out
            omega
    · obtain rfl : j = n := by omega
      have e : L.take j = L := List.take_of_length_le (by rw [HNN.out]; omega)
      rw [e] at hit ho ⊢
      have hnx := fun ty => Lib.run_next_end_at (P := Tryd.prog) wr I _ _ ty hit (by show ¬ (encU L).length < (encU L).length; omega)
      clear hz hlt
      go_wp2_with fail
      go_ret
      exact ⟨a, c, rfl, ho.bs, hq⟩

set_option maxRecDepth 100000 in
set_option maxHeartbeats 4000000 in
theorem octs_2 (F : Value) (L : List Nat) (hsc : L.all scal = true) (hz : (encU L).length ≤ 1000000) (w : World) :
    Calls Tryd.prog 29 #[.agg #[F, .int .i64 2], .string ⟨(encU L).toArray⟩] w fun e w' => ∃ a c, e = .returned (.slice a (octL 2 L).length c) ∧ Bs w' a (octL 2 L).length c (octL 2 L) ∧ Below w.heap.size w w' := by
  obtain ⟨i0, hi, hz0, hz1, hz2⟩ := info_parts info_u8
  obtain ⟨R, hR⟩ : ∃ R, w.heap.size = R := ⟨_, rfl⟩
  have Z1 := Lib.hid (Blk.new w 47 #[F, .int .i64 2])
  rw [hR] at Z1
  have Q1 := Lib.hid (bal (Below.refl w.heap.size w) (.cells #[F, .int .i64 2] 47))
  have hlen := encU_len L hsc
  obtain ⟨n, hn⟩ : ∃ n, L.length = n := ⟨_, rfl⟩
  have HRC : Hid (∀ w, Calls Tryd.prog 34 #[.string ⟨(encU L).toArray⟩] w fun e w' => e = .returned (.int .i64 n) ∧ Below w.heap.size w w') := by
    intro w
    refine (Tryd.utf8_RuneCountInString ⟨(encU L).toArray⟩ w (by show (encU L).length < _; omega)).mono ?_
    rintro e w' ⟨rfl, pos, rfl⟩
    rw [count_is hsc, hn]
    exact ⟨rfl, bal (Below.refl _ w) _⟩
  have HD := Lib.hid (fun j hj => dec_at hsc (j := j) hj)
  have HSC : Hid (∀ x ∈ L, scal x = true) := List.all_eq_true.1 hsc
  have HL := Lib.hid (fun j hj => octL_take (w := 2) (L := L) (j := j) hj)
  have HLL := Lib.hid (fun j => octL_len4 2 (by omega) (L.take j))
  rw [hn] at hlen
  have hn2 : (n : Int) ≤ 1000000 := by omega
  have hn0 : (0 : Int) ≤ n := by omega
  have HNN := Lib.hid hn
  have hb2 : i0.bytes * (n * 2) ≤ 281474976710656 := by rw [hz2]; omega
  have hb3 : n * 2 ≤ maxLen := by unfold maxLen; omega
  have hcast : ((n * 2 : Nat) : Int) = IntKind.i64.wrap ((n : Int) * 2) := by rw [IntKind.wrap_i64]; omega
  clear hz hlen hsc hn
  go_enter Tryd.func29, Tryd.ntmps29
  go_wp2_with fail
  generalize w.alloc (.cells #[F, .int .i64 2] 47) = w1 at *
  obtain ⟨z0, z1, zl, zf⟩ := Z1.out.cells2
  go_wp2_with fail
  go_region_held3 (fun w' => w'.cell? ⟨R, 1, none⟩ = some (.int .i64 2)) (first | exact z1 | exact k1 | exact j1 | assumption)
    (first
     | (go_at_call 34; (with_reducible refine (HRC.out _).mono ?_); rintro e w2 ⟨rfl, q⟩; have Q2 := Lib.hid (bthen Q1.out.drew q); have Z2 := Lib.hid ((Z1.out.drewN 1).below q (Z1.out.drewN 1).lt); clear q; obtain ⟨k0, k1, kl, kf⟩ := Z2.out.cells2; obtain ⟨w3, hrun, hr1, hr2⟩ := run_make_own (P := Tryd.prog) w2 w.heap.size 25 5 i0 (.int .u8 0) 1 Tryd.underlying25 hi hz0 hz1 .i64 .i64 (n * 2) hb2 hb3 Q2.out.size; rw [hcast] at hrun; have Q3 := Lib.hid (Q2.out.grown hr2 Q2.out.size (fun k hk => by cases hk)); have Z3 : Hid (Blk w3 R 47 #[F, .int .i64 2]) := (hr2.block R Z2.out.lt (by simp)).trans Z2.out; obtain ⟨j0, j1, jl, jf⟩ := Z3.out.cells2))
  clear z0 z1 zl zf k0 k1 kl kf hrun hr2 hb2 hb3 hcast
  obtain ⟨I, hI⟩ : ∃ I, w3.heap.size = I := ⟨_, rfl⟩
  have HGE : Hid (w.heap.size ≤ I) := by rw [Hid, ← hI]; exact Q3.out.size
  have HNE : Hid (R ≠ I) := by rw [Hid, ← hI]; exact Nat.ne_of_lt Z3.out.lt
  have O3 := Lib.hid hr1
  clear hr1
  go_wp2_with fail
  go_loopw [5] (fun v wr => ∃ a c j, j ≤ n ∧ v = .slice a (octL 2 (L.take j)).length c ∧ Own wr w.heap.size 5 a (octL 2 (L.take j)).length c (octL 2 (L.take j)) ∧ wr.heap[I]? = some (.stringIter ⟨(encU L).toArray⟩ (encU (L.take j)).length) ∧ Blk wr R 47 #[F, .int .i64 2] ∧ Below w.heap.size w wr) (fun _ wr => (encU L).length - wr.iterPos I)
  case atStart =>
    refine ⟨_, _, 0, Nat.zero_le _, rfl, O3.out.alloc _, ?_, Z3.out.alloc _, bal Q3.out _⟩
    rw [← hI]
    exact World.iter_heap w3 _ 0
  case round =>
    obtain ⟨a, c, j, hj, rfl, ho, hit, hz, hq⟩ := hrel
    have hlt : I < wr.heap.size := (Array.getElem?_eq_some_iff.1 hit).1
    by_cases h : j < n
    · have h' : j < L.length := by rw [HNN.out]; exact h
      obtain ⟨d1, d2, d3⟩ := HD.out j h'
      have hnx := fun ty => Lib.run_next_any_at (P := Tryd.prog) wr I _ _ ty hit d1
      rw [d2] at hnx
      dsimp only at hnx
      rw [d3] at hnx
      have Q4 := Lib.hid (Lib.below_iterAt hq (k := I) HGE.out ⟨(encU L).toArray⟩ (encU (L.take (j + 1))).length)
      have Z4 : Hid (Blk (wr.iterAt I ⟨(encU L).toArray⟩ (encU (L.take (j + 1))).length) R 47 #[F, .int .i64 2]) := (Lib.iterAt_other wr I R _ _ HNE.out).trans hz
      have I4 := Lib.hid (Lib.iterAt_heap wr I ⟨(encU L).toArray⟩ (encU (L.take j)).length (encU (L.take (j + 1))).length hit)
      have O4 := Lib.hid (own_iter ho hit (encU (L.take (j + 1))).length)
      have M1 : Hid (wr.iterPos I = (encU (L.take j)).length) := by unfold Hid World.iterPos; rw [hit]
      have M2 : Hid ((encU (L.take j)).length < (encU (L.take (j + 1))).length ∧ (encU (L.take j)).length < (encU L).length) := ⟨by have hne := u8O_ne (HSC.out _ (List.getElem_mem h')); have hp : 0 < (u8O L[j]).length := List.length_pos_iff.2 hne; omega, d1⟩
      have HST := Lib.hid (HL.out j h')
      have hbd := scal_true.1 (HSC.out _ (List.getElem_mem h'))
      have HS4 : Hid (w.heap.size ≤ (wr.iterAt I ⟨(encU L).toArray⟩ (encU (L.take (j + 1))).length).heap.size) := Q4.out.size
      have hll := HLL.out j
      rw [List.length_take] at hll
      generalize wr.iterAt I ⟨(encU L).toArray⟩ (encU (L.take (j + 1))).length = w4 at *
      generalize hx : L[j] = x at *
      obtain ⟨NL, hNL⟩ : ∃ NL, (octL 2 (L.take j)).length = NL := ⟨_, rfl⟩
      have HNL := Lib.hid hNL
      rw [hNL] at O4 hll
      have hNL2 : NL ≤ 16000000 := by simp at hll; omega
      obtain ⟨z0, z1, zl, zf⟩ := Z4.out.cells2
      have hxi : (x : Int) ≤ 1114111 := by omega
      have hx0 : (0 : Int) ≤ x := by omega
      clear d1 d2 d3 hll hit ho hz hq
      go_wp2_with fail
      go_loopw [5, 8] (fun v i wr => ∃ a c m, m ≤ 2 ∧ i = .int .i64 ((2 : Int) - 1 - ((m : Nat) : Int)) ∧ v = .slice a (NL + m) c ∧ Own wr w.heap.size 5 a (NL + m) c (octL 2 (L.take j) ++ (octW 2 x).take m) ∧ wr.heap[I]? = some (.stringIter ⟨(encU L).toArray⟩ (encU (L.take (j + 1))).length) ∧ Blk wr R 47 #[F, .int .i64 2] ∧ Below w.heap.size w wr) (fun _ i _ => (intOf i + 1).toNat)
      case atStart =>
        refine ⟨a, c, 0, by omega, rfl, ?_, ?_, I4.out, Z4.out, Q4.out⟩
        · rw [HNL.out]; rfl
        · rw [List.take_zero, List.append_nil]; exact O4.out
      case round =>
        obtain ⟨a, c, m, hm, hi8, rfl, ho, hit, hz, hq⟩ := hrel
        have hsz : w.heap.size ≤ wr.heap.size := hq.size
        have O5 := Lib.hid ho
        have I5 := Lib.hid hit
        have Z5 := Lib.hid hz
        have Q5 := Lib.hid hq
        obtain ⟨z0, z1, zl, zf⟩ := Z5.out.cells2
        clear ho hit hz hq
        rcases (by omega : m = 0 ∨ m = 1 ∨ m = 2) with rfl | rfl | rfl
        · have hi9 := hi8.trans (show Value.int .i64 ((2 : Int) - 1 - ((0 : Nat) : Int)) = .int .i64 1 from rfl)
          clear hi8
          subst hi9
          obtain ⟨b0, hb0⟩ : ∃ b0 : UInt8, by8 (x / 256) = b0 := ⟨_, rfl⟩
          have e0 : (x : Int) / 256 % 256 = (b0.toNat : Int) := by rw [← hb0]; rw [by8_mod]; omega
          have HTK : Hid ((octW 2 x).take 1 = (octW 2 x).take 0 ++ [b0]) := by rw [← hb0]; rfl
          clear hb0
          have SX := Lib.hid ((lit1 (w := wr) b0).bs)
          have OX := Lib.hid (World.ownsRow.alloc O5.out (.cells #[.int .u8 b0.toNat] 5))
          have IX : Hid ((wr.alloc (.cells #[.int .u8 b0.toNat] 5)).heap[I]? = _) := (Below.heap_alloc wr _ I (Array.getElem?_eq_some_iff.1 I5.out).1).trans I5.out
          have ZX := Lib.hid (Z5.out.alloc (.cells #[.int .u8 b0.toNat] 5))
          have QX := Lib.hid (bal Q5.out (.cells #[.int .u8 b0.toNat] 5))
          have HSZ : w.heap.size ≤ (wr.alloc (.cells #[.int .u8 b0.toNat] 5)).heap.size := by simp; omega
          go_wp2_with (at_builtin; go_must (refine wpList_app _ rfl _ _ 25 rfl w.heap.size 5 i0 Tryd.underlying25 hi hz0 hz1 hz2 a (NL + 0) c _ rfl OX.out _ 1 1 [b0] rfl SX.out (by omega) HSZ ?_))
          intro a6 c6 w6 ho6 hg6
          have I6 := Lib.hid (iter_grown hg6 OX.out IX.out)
          have Z6 : Hid (Blk w6 R 47 #[F, .int .i64 2]) := (hg6.block R ZX.out.lt (fun e => blk_ne8 (by decide) ZX.out OX.out e.symm)).trans ZX.out
          have Q6 := Lib.hid (QX.out.trans (app_below OX.out hg6 (Nat.le_refl _) HSZ))
          have O6 : Hid (Own w6 w.heap.size 5 a6 (NL + 1) c6 (octL 2 (L.take j) ++ (octW 2 x).take 1)) := by rw [Hid, HTK.out]; simpa [hR, Nat.add_assoc] using ho6
          clear ho6 hg6
          go_wp2_with fail
          go_roundw
          case rel => exact ⟨a6, c6, 1, by omega, rfl, rfl, O6.out, I6.out, Z6.out, Q6.out⟩
          case measure => simp [intOf]
        · have hi9 := hi8.trans (show Value.int .i64 ((2 : Int) - 1 - ((1 : Nat) : Int)) = .int .i64 0 from rfl)
          clear hi8
          subst hi9
          obtain ⟨b0, hb0⟩ : ∃ b0 : UInt8, by8 (x % 256) = b0 := ⟨_, rfl⟩
          have e0 : (x : Int) % 256 = (b0.toNat : Int) := by rw [← hb0]; rw [by8_mod]; omega
          have HTK : Hid ((octW 2 x).take 2 = (octW 2 x).take 1 ++ [b0]) := by rw [← hb0]; rfl
          clear hb0
          have SX := Lib.hid ((lit1 (w := wr) b0).bs)
          have OX := Lib.hid (World.ownsRow.alloc O5.out (.cells #[.int .u8 b0.toNat] 5))
          have IX : Hid ((wr.alloc (.cells #[.int .u8 b0.toNat] 5)).heap[I]? = _) := (Below.heap_alloc wr _ I (Array.getElem?_eq_some_iff.1 I5.out).1).trans I5.out
          have ZX := Lib.hid (Z5.out.alloc (.cells #[.int .u8 b0.toNat] 5))
          have QX := Lib.hid (bal Q5.out (.cells #[.int .u8 b0.toNat] 5))
          have HSZ : w.heap.size ≤ (wr.alloc (.cells #[.int .u8 b0.toNat] 5)).heap.size := by simp; omega
          go_wp2_with (at_builtin; go_must (refine wpList_app _ rfl _ _ 25 rfl w.heap.size 5 i0 Tryd.underlying25 hi hz0 hz1 hz2 a (NL + 1) c _ rfl OX.out _ 1 1 [b0] rfl SX.out (by omega) HSZ ?_))
          intro a6 c6 w6 ho6 hg6
          have I6 := Lib.hid (iter_grown hg6 OX.out IX.out)
          have Z6 : Hid (Blk w6 R 47 #[F, .int .i64 2]) := (hg6.block R ZX.out.lt (fun e => blk_ne8 (by decide) ZX.out OX.out e.symm)).trans ZX.out
          have Q6 := Lib.hid (QX.out.trans (app_below OX.out hg6 (Nat.le_refl _) HSZ))
          have O6 : Hid (Own w6 w.heap.size 5 a6 (NL + 2) c6 (octL 2 (L.take j) ++ (octW 2 x).take 2)) := by rw [Hid, HTK.out]; simpa [hR, Nat.add_assoc] using ho6
          clear ho6 hg6
          go_wp2_with fail
          go_roundw
          case rel => exact ⟨a6, c6, 2, by omega, rfl, rfl, O6.out, I6.out, Z6.out, Q6.out⟩
          case measure => simp [intOf]
        · have hi9 := hi8.trans (show Value.int .i64 ((2 : Int) - 1 - ((2 : Nat) : Int)) = .int .i64 (-1) from rfl)
          clear hi8
          subst hi9
          have O6 : Hid (Own wr w.heap.size 5 a (octL 2 (L.take (j + 1))).length c (octL 2 (L.take (j + 1)))) := by
            have e1 : (octW 2 x).take 2 = octW 2 x := List.take_of_length_le (by rw [octW_len (by omega)]; decide)
            have h1 := O5.out
            rw [e1, ← HST.out] at h1
            have e2 : NL + 2 = (octL 2 (L.take (j + 1))).length := h1.bs.len.symm
            rw [← e2]
            exact h1
          have e2 : NL + 2 = (octL 2 (L.take (j + 1))).length := by
            rw [HST.out, List.length_append, HNL.out, octW_len (by omega)]; rfl
          go_wp2_with fail
          go_roundw
          case rel => exact ⟨a, c, j + 1, h, by rw [e2], O6.out, I5.out, Z5.out, Q5.out⟩
          case measure =>
            have e4 : wr.iterPos I = (encU (L.take (j + 1))).length := by unfold World.iterPos; rw [I5.out]
            rw [e4, M1.out]
            have := M2.out
            omega
    · obtain rfl : j = n := by omega
      have e : L.take j = L := List.take_of_length_le (by rw [HNN.out]; omega)
      rw [e] at hit ho ⊢
      have hnx := fun ty => Lib.run_next_end_at (P := Tryd.prog) wr I _ _ ty hit (by show ¬ (encU L).length < (encU L).length; omega)
      clear hz hlt
      go_wp2_with fail
      go_ret
      exact ⟨a, c, rfl, ho.bs, hq⟩

set_option maxRecDepth 100000 in
set_option maxHeartbeats 4000000 in
theorem octs_4 (F : Value) (L : List Nat) (hsc : L.all scal = true) (hz : (encU L).length ≤ 1000000) (w : World) :
    Calls Tryd.prog 29 #[.agg #[F, .int .i64 4], .string ⟨(encU L).toArray⟩] w fun e w' => ∃ a c, e = .returned (.slice a (octL 4 L).length c) ∧ Bs w' a (octL 4 L).length c (octL 4 L) ∧ Below w.heap.size w w' := by
  obtain ⟨i0, hi, hz0, hz1, hz2⟩ := info_parts info_u8
  obtain ⟨R, hR⟩ : ∃ R, w.heap.size = R := ⟨_, rfl⟩
  have Z1 := Lib.hid (Blk.new w 47 #[F, .int .i64 4])
  rw [hR] at Z1
  have Q1 := Lib.hid (bal (Below.refl w.heap.size w) (.cells #[F, .int .i64 4] 47))
  have hlen := encU_len L hsc
  obtain ⟨n, hn⟩ : ∃ n, L.length = n := ⟨_, rfl⟩
  have HRC : Hid (∀ w, Calls Tryd.prog 34 #[.string ⟨(encU L).toArray⟩] w fun e w' => e = .returned (.int .i64 n) ∧ Below w.heap.size w w') := by
    intro w
    refine (Tryd.utf8_RuneCountInString ⟨(encU L).toArray⟩ w (by show (encU L).length < _; omega)).mono ?_
    rintro e w' ⟨rfl, pos, rfl⟩
    rw [count_is hsc, hn]
    exact ⟨rfl, bal (Below.refl _ w) _⟩
  have HD := Lib.hid (fun j hj => dec_at hsc (j := j) hj)
  have HSC : Hid (∀ x ∈ L, scal x = true) := List.all_eq_true.1 hsc
  have HL := Lib.hid (fun j hj => octL_take (w := 4) (L := L) (j := j) hj)
  have HLL := Lib.hid (fun j => octL_len4 4 (by omega) (L.take j))
  rw [hn] at hlen
  have hn2 : (n : Int) ≤ 1000000 := by omega
  have hn0 : (0 : Int) ≤ n := by omega
  have HNN := Lib.hid hn
  have hb2 : i0.bytes * (n * 4) ≤ 281474976710656 := by rw [hz2]; omega
  have hb3 : n * 4 ≤ maxLen := by unfold maxLen; omega
  have hcast : ((n * 4 : Nat) : Int) = IntKind.i64.wrap ((n : Int) * 4) := by rw [IntKind.wrap_i64]; omega
  clear hz hlen hsc hn
  go_enter Tryd.func29, Tryd.ntmps29
  go_wp2_with fail
  generalize w.alloc (.cells #[F, .int .i64 4] 47) = w1 at *
  obtain ⟨z0, z1, zl, zf⟩ := Z1.out.cells2
  go_wp2_with fail
  go_region_held3 (fun w' => w'.cell? ⟨R, 1, none⟩ = some (.int .i64 4)) (first | exact z1 | exact k1 | exact j1 | assumption)
    (first
     | (go_at_call 34; (with_reducible refine (HRC.out _).mono ?_); rintro e w2 ⟨rfl, q⟩; have Q2 := Lib.hid (bthen Q1.out.drew q); have Z2 := Lib.hid ((Z1.out.drewN 1).below q (Z1.out.drewN 1).lt); clear q; obtain ⟨k0, k1, kl, kf⟩ := Z2.out.cells2; obtain ⟨w3, hrun, hr1, hr2⟩ := run_make_own (P := Tryd.prog) w2 w.heap.size 25 5 i0 (.int .u8 0) 1 Tryd.underlying25 hi hz0 hz1 .i64 .i64 (n * 4) hb2 hb3 Q2.out.size; rw [hcast] at hrun; have Q3 := Lib.hid (Q2.out.grown hr2 Q2.out.size (fun k hk => by cases hk)); have Z3 : Hid (Blk w3 R 47 #[F, .int .i64 4]) := (hr2.block R Z2.out.lt (by simp)).trans Z2.out; obtain ⟨j0, j1, jl, jf⟩ := Z3.out.cells2))
  clear z0 z1 zl zf k0 k1 kl kf hrun hr2 hb2 hb3 hcast
  obtain ⟨I, hI⟩ : ∃ I, w3.heap.size = I := ⟨_, rfl⟩
  have HGE : Hid (w.heap.size ≤ I) := by rw [Hid, ← hI]; exact Q3.out.size
  have HNE : Hid (R ≠ I) := by rw [Hid, ← hI]; exact Nat.ne_of_lt Z3.out.lt
  have O3 := Lib.hid hr1
  clear hr1
  go_wp2_with fail
  go_loopw [5] (fun v wr => ∃ a c j, j ≤ n ∧ v = .slice a (octL 4 (L.take j)).length c ∧ Own wr w.heap.size 5 a (octL 4 (L.take j)).length c (octL 4 (L.take j)) ∧ wr.heap[I]? = some (.stringIter ⟨(encU L).toArray⟩ (encU (L.take j)).length) ∧ Blk wr R 47 #[F, .int .i64 4] ∧ Below w.heap.size w wr) (fun _ wr => (encU L).length - wr.iterPos I)
  case atStart =>
    refine ⟨_, _, 0, Nat.zero_le _, rfl, O3.out.alloc _, ?_, Z3.out.alloc _, bal Q3.out _⟩
    rw [← hI]
    exact World.iter_heap w3 _ 0
  case round =>
    obtain ⟨a, c, j, hj, rfl, ho, hit, hz, hq⟩ := hrel
    have hlt : I < wr.heap.size := (Array.getElem?_eq_some_iff.1 hit).1
    by_cases h : j < n
    · have h' : j < L.length := by rw [HNN.out]; exact h
      obtain ⟨d1, d2, d3⟩ := HD.out j h'
      have hnx := fun ty => Lib.run_next_any_at (P := Tryd.prog) wr I _ _ ty hit d1
      rw [d2] at hnx
      dsimp only at hnx
      rw [d3] at hnx
      have Q4 := Lib.hid (Lib.below_iterAt hq (k := I) HGE.out ⟨(encU L).toArray⟩ (encU (L.take (j + 1))).length)
      have Z4 : Hid (Blk (wr.iterAt I ⟨(encU L).toArray⟩ (encU (L.take (j + 1))).length) R 47 #[F, .int .i64 4]) := (Lib.iterAt_other wr I R _ _ HNE.out).trans hz
      have I4 := Lib.hid (Lib.iterAt_heap wr I ⟨(encU L).toArray⟩ (encU (L.take j)).length (encU (L.take (j + 1))).length hit)
      have O4 := Lib.hid (own_iter ho hit (encU (L.take (j + 1))).length)
      have M1 : Hid (wr.iterPos I = (encU (L.take j)).length) := by unfold Hid World.iterPos; rw [hit]
      have M2 : Hid ((encU (L.take j)).length < (encU (L.take (j + 1))).length ∧ (encU (L.take j)).length < (encU L).length) := ⟨by have hne := u8O_ne (HSC.out _ (List.getElem_mem h')); have hp : 0 < (u8O L[j]).length := List.length_pos_iff.2 hne; omega, d1⟩
      have HST := Lib.hid (HL.out j h')
      have hbd := scal_true.1 (HSC.out _ (List.getElem_mem h'))
      have HS4 : Hid (w.heap.size ≤ (wr.iterAt I ⟨(encU L).toArray⟩ (encU (L.take (j + 1))).length).heap.size) := Q4.out.size
      have hll := HLL.out j
      rw [List.length_take] at hll
      generalize wr.iterAt I ⟨(encU L).toArray⟩ (encU (L.take (j + 1))).length = w4 at *
      generalize hx : L[j] = x at *
      obtain ⟨NL, hNL⟩ : ∃ NL, (octL 4 (L.take j)).length = NL := ⟨_, rfl⟩
      have HNL := Lib.hid hNL
      rw [hNL] at O4 hll
      have hNL2 : NL ≤ 16000000 := by simp at hll; omega
      obtain ⟨z0, z1, zl, zf⟩ := Z4.out.cells2
      have hxi : (x : Int) ≤ 1114111 := by omega
      have hx0 : (0 : Int) ≤ x := by omega
      clear d1 d2 d3 hll hit ho hz hq
      go_wp2_with fail
      go_loopw [5, 8] (fun v i wr => ∃ a c m, m ≤ 4 ∧ i = .int .i64 ((4 : Int) - 1 - ((m : Nat) : Int)) ∧ v = .slice a (NL + m) c ∧ Own wr w.heap.size 5 a (NL + m) c (octL 4 (L.take j) ++ (octW 4 x).take m) ∧ wr.heap[I]? = some (.stringIter ⟨(encU L).toArray⟩ (encU (L.take (j + 1))).length) ∧ Blk wr R 47 #[F, .int .i64 4] ∧ Below w.heap.size w wr) (fun _ i _ => (intOf i + 1).toNat)
      case atStart =>
        refine ⟨a, c, 0, by omega, rfl, ?_, ?_, I4.out, Z4.out, Q4.out⟩
        · rw [HNL.out]; rfl
        · rw [List.take_zero, List.append_nil]; exact O4.out
      case round =>
        obtain ⟨a, c, m, hm, hi8, rfl, ho, hit, hz, hq⟩ := hrel
        have hsz : w.heap.size ≤ wr.heap.size := hq.size
        have O5 := Lib.hid ho
        have I5 := Lib.hid hit
        have Z5 := Lib.hid hz
        have Q5 := Lib.hid hq
        obtain ⟨z0, z1, zl, zf⟩ := Z5.out.cells2
        clear ho hit hz hq
        rcases (by omega : m = 0 ∨ m = 1 ∨ m = 2 ∨ m = 3 ∨ m = 4) with rfl | rfl | rfl | rfl | rfl
        · have hi9 := hi8.trans (show Value.int .i64 ((4 : Int) - 1 - ((0 : Nat) : Int)) = .int .i64 3 from rfl)
          clear hi8
          subst hi9
          obtain ⟨b0, hb0⟩ : ∃ b0 : UInt8, 0 = b0 := ⟨_, rfl⟩
          have e0 : (x : Int) / 16777216 = (b0.toNat : Int) := by rw [← hb0]; show (x : Int) / 16777216 = 0; omega
          have HTK : Hid ((octW 4 x).take 1 = (octW 4 x).take 0 ++ [b0]) := by rw [← hb0]; rfl
          clear hb0
          have SX := Lib.hid ((lit1 (w := wr) b0).bs)
          have OX := Lib.hid (World.ownsRow.alloc O5.out (.cells #[.int .u8 b0.toNat] 5))
          have IX : Hid ((wr.alloc (.cells #[.int .u8 b0.toNat] 5)).heap[I]? = _) := (Below.heap_alloc wr _ I (Array.getElem?_eq_some_iff.1 I5.out).1).trans I5.out
          have ZX := Lib.hid (Z5.out.alloc (.cells #[.int .u8 b0.toNat] 5))
          have QX := Lib.hid (bal Q5.out (.cells #[.int .u8 b0.toNat] 5))
          have HSZ : w.heap.size ≤ (wr.alloc (.cells #[.int .u8 b0.toNat] 5)).heap.size := by simp; omega
          go_wp2_with (at_builtin; go_must (refine wpList_app _ rfl _ _ 25 rfl w.heap.size 5 i0 Tryd.underlying25 hi hz0 hz1 hz2 a (NL + 0) c _ rfl OX.out _ 1 1 [b0] rfl SX.out (by omega) HSZ ?_))
          intro a6 c6 w6 ho6 hg6
          have I6 := Lib.hid (iter_grown hg6 OX.out IX.out)
          have Z6 : Hid (Blk w6 R 47 #[F, .int .i64 4]) := (hg6.block R ZX.out.lt (fun e => blk_ne8 (by decide) ZX.out OX.out e.symm)).trans ZX.out
          have Q6 := Lib.hid (QX.out.trans (app_below OX.out hg6 (Nat.le_refl _) HSZ))
          have O6 : Hid (Own w6 w.heap.size 5 a6 (NL + 1) c6 (octL 4 (L.take j) ++ (octW 4 x).take 1)) := by rw [Hid, HTK.out]; simpa [hR, Nat.add_assoc] using ho6
          clear ho6 hg6
          go_wp2_with fail
          go_roundw
          case rel => exact ⟨a6, c6, 1, by omega, rfl, rfl, O6.out, I6.out, Z6.out, Q6.out⟩
          case measure => simp [intOf]
        · have hi9 := hi8.trans (show Value.int .i64 ((4 : Int) - 1 - ((1 : Nat) : Int)) = .int .i64 2 from rfl)
          clear hi8
          subst hi9
          obtain ⟨b0, hb0⟩ : ∃ b0 : UInt8, by8 (x / 65536) = b0 := ⟨_, rfl⟩
          have e0 : (x : Int) / 65536 = (b0.toNat : Int) := by rw [← hb0]; rw [by8_mod]; omega
          have HTK : Hid ((octW 4 x).take 2 = (octW 4 x).take 1 ++ [b0]) := by rw [← hb0]; rfl
          clear hb0
          have SX := Lib.hid ((lit1 (w := wr) b0).bs)
          have OX := Lib.hid (World.ownsRow.alloc O5.out (.cells #[.int .u8 b0.toNat] 5))
          have IX : Hid ((wr.alloc (.cells #[.int .u8 b0.toNat] 5)).heap[I]? = _) := (Below.heap_alloc wr _ I (Array.getElem?_eq_some_iff.1 I5.out).1).trans I5.out
          have ZX := Lib.hid (Z5.out.alloc (.cells #[.int .u8 b0.toNat] 5))
          have QX := Lib.hid (bal Q5.out (.cells #[.int .u8 b0.toNat] 5))
          have HSZ : w.heap.size ≤ (wr.alloc (.cells #[.int .u8 b0.toNat] 5)).heap.size := by simp; omega
          go_wp2_with (at_builtin; go_must (refine wpList_app _ rfl _ _ 25 rfl w.heap.size 5 i0 Tryd.underlying25 hi hz0 hz1 hz2 a (NL + 1) c _ rfl OX.out _ 1 1 [b0] rfl SX.out (by omega) HSZ ?_))
          intro a6 c6 w6 ho6 hg6
          have I6 := Lib.hid (iter_grown hg6 OX.out IX.out)
          have Z6 : Hid (Blk w6 R 47 #[F, .int .i64 4]) := (hg6.block R ZX.out.lt (fun e => blk_ne8 (by decide) ZX.out OX.out e.symm)).trans ZX.out
          have Q6 := Lib.hid (QX.out.trans (app_below OX.out hg6 (Nat.le_refl _) HSZ))
          have O6 : Hid (Own w6 w.heap.size 5 a6 (NL + 2) c6 (octL 4 (L.take j) ++ (octW 4 x).take 2)) := by rw [Hid, HTK.out]; simpa [hR, Nat.add_assoc] using ho6
          clear ho6 hg6
          go_wp2_with fail
          go_roundw
          case rel => exact ⟨a6, c6, 2, by omega, rfl, rfl, O6.out, I6.out, Z6.out, Q6.out⟩
          case measure => simp [intOf]
        · have hi9 := hi8.trans (show Value.int .i64 ((4 : Int) - 1 - ((2 : Nat) : Int)) = .int .i64 1 from rfl)
          clear hi8
          subst hi9
          obtain ⟨b0, hb0⟩ : ∃ b0 : UInt8, by8 (x / 256 % 256) = b0 := ⟨_, rfl⟩
          have e0 : (x : Int) / 256 % 256 = (b0.toNat : Int) := by rw [← hb0]; rw [by8_mod]; omega
          have HTK : Hid ((octW 4 x).take 3 = (octW 4 x).take 2 ++ [b0]) := by rw [← hb0]; rfl
          clear hb0
          have SX := Lib.hid ((lit1 (w := wr) b0).bs)
          have OX := Lib.hid (World.ownsRow.alloc O5.out (.cells #[.int .u8 b0.toNat] 5))
          have IX : Hid ((wr.alloc (.cells #[.int .u8 b0.toNat] 5)).heap[I]? = _) := (Below.heap_alloc wr _ I (Array.getElem?_eq_some_iff.1 I5.out).1).trans I5.out
          have ZX := Lib.hid (Z5.out.alloc (.cells #[.int .u8 b0.toNat] 5))
          have QX := Lib.hid (bal Q5.out (.cells #[.int .u8 b0.toNat] 5))
          have HSZ : w.heap.size ≤ (wr.alloc (.cells #[.int .u8 b0.toNat] 5)).heap.size := by simp; omega
          go_wp2_with (at_builtin; go_must (refine wpList_app _ rfl _ _ 25 rfl w.heap.size 5 i0 Tryd.underlying25 hi hz0 hz1 hz2 a (NL + 2) c _ rfl OX.out _ 1 1 [b0] rfl SX.out (by omega) HSZ ?_))
          intro a6 c6 w6 ho6 hg6
          have I6 := Lib.hid (iter_grown hg6 OX.out IX.out)
          have Z6 : Hid (Blk w6 R 47 #[F, .int .i64 4]) := (hg6.block R ZX.out.lt (fun e => blk_ne8 (by decide) ZX.out OX.out e.symm)).trans ZX.out
          have Q6 := Lib.hid (QX.out.trans (app_below OX.out hg6 (Nat.le_refl _) HSZ))
          have O6 : Hid (Own w6 w.heap.size 5 a6 (NL + 3) c6 (octL 4 (L.take j) ++ (octW 4 x).take 3)) := by rw [Hid, HTK.out]; simpa [hR, Nat.add_assoc] using ho6
          clear ho6 hg6
          go_wp2_with fail
          go_roundw
          case rel => exact ⟨a6, c6, 3, by omega, rfl, rfl, O6.out, I6.out, Z6.out, Q6.out⟩
          case measure => simp [intOf]
        · have hi9 := hi8.trans (show Value.int .i64 ((4 : Int) - 1 - ((3 : Nat) : Int)) = .int .i64 0 from rfl)
          clear hi8
          subst hi9
          obtain ⟨b0, hb0⟩ : ∃ b0 : UInt8, by8 (x % 256) = b0 := ⟨_, rfl⟩
          have e0 : (x : Int) % 256 = (b0.toNat : Int) := by rw [← hb0]; rw [by8_mod]; omega
          have HTK : Hid ((octW 4 x).take 4 = (octW 4 x).take 3 ++ [b0]) := by rw [← hb0]; rfl
          clear hb0
          have SX := Lib.hid ((lit1 (w := wr) b0).bs)
          have OX := Lib.hid (World.ownsRow.alloc O5.out (.cells #[.int .u8 b0.toNat] 5))
          have IX : Hid ((wr.alloc (.cells #[.int .u8 b0.toNat] 5)).heap[I]? = _) := (Below.heap_alloc wr _ I (Array.getElem?_eq_some_iff.1 I5.out).1).trans I5.out
          have ZX := Lib.hid (Z5.out.alloc (.cells #[.int .u8 b0.toNat] 5))
          have QX := Lib.hid (bal Q5.out (.cells #[.int .u8 b0.toNat] 5))
          have HSZ : w.heap.size ≤ (wr.alloc (.cells #[.int .u8 b0.toNat] 5)).heap.size := by simp; omega
          go_wp2_with (at_builtin; go_must (refine wpList_app _ rfl _ _ 25 rfl w.heap.size 5 i0 Tryd.underlying25 hi hz0 hz1 hz2 a (NL + 3) c _ rfl OX.out _ 1 1 [b0] rfl SX.out (by omega) HSZ ?_))
          intro a6 c6 w6 ho6 hg6
          have I6 := Lib.hid (iter_grown hg6 OX.out IX.out)
          have Z6 : Hid (Blk w6 R 47 #[F, .int .i64 4]) := (hg6.block R ZX.out.lt (fun e => blk_ne8 (by decide) ZX.out OX.out e.symm)).trans ZX.out
          have Q6 := Lib.hid (QX.out.trans (app_below OX.out hg6 (Nat.le_refl _) HSZ))
          have O6 : Hid (Own w6 w.heap.size 5 a6 (NL + 4) c6 (octL 4 (L.take j) ++ (octW 4 x).take 4)) := by rw [Hid, HTK.out]; simpa [hR, Nat.add_assoc] using ho6
          clear ho6 hg6
          go_wp2_with fail
          go_roundw
          case rel => exact ⟨a6, c6, 4, by omega, rfl, rfl, O6.out, I6.out, Z6.out, Q6.out⟩
          case measure => simp [intOf]
        · have hi9 := hi8.trans (show Value.int .i64 ((4 : Int) - 1 - ((4 : Nat) : Int)) = .int .i64 (-1) from rfl)
          clear hi8
          subst hi9
          have O6 : Hid (Own wr w.heap.size 5 a (octL 4 (L.take (j + 1))).length c (octL 4 (L.take (j + 1)))) := by
            have e1 : (octW 4 x).take 4 = octW 4 x := List.take_of_length_le (by rw [octW_len (by omega)]; decide)
            have h1 := O5.out
            rw [e1, ← HST.out] at h1
            have e2 : NL + 4 = (octL 4 (L.take (j + 1))).length := h1.bs.len.symm
            rw [← e2]
            exact h1
          have e2 : NL + 4 = (octL 4 (L.take (j + 1))).length := by
            rw [HST.out, List.length_append, HNL.out, octW_len (by omega)]; rfl
          go_wp2_with fail
          go_roundw
          case rel => exact ⟨a, c, j + 1, h, by rw [e2], O6.out, I5.out, Z5.out, Q5.out⟩
          case measure =>
            have e4 : wr.iterPos I = (encU (L.take (j + 1))).length := by unfold World.iterPos; rw [I5.out]
            rw [e4, M1.out]
            have := M2.out
            omega
    · obtain rfl : j = n := by omega
      have e : L.take j = L := List.take_of_length_le (by rw [HNN.out]; omega)
      rw [e] at hit ho ⊢
      have hnx := fun ty => Lib.run_next_end_at (P := Tryd.prog) wr I _ _ ty hit (by show ¬ (encU L).length < (encU L).length; omega)
      clear hz hlt
      go_wp2_with fail
      go_ret
      exact ⟨a, c, rfl, ho.bs, hq⟩
end Go.Proofs.YtkmpmphabohkkaaDoor
