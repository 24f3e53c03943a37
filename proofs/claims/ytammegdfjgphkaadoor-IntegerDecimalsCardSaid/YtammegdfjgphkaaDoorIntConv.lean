/-
  Contract of converted: the digits of a number to another base.
-/
import Derived.Test.YtammegdfjgphkaaDoorIntGroups
import Derived.Test.YtammegdfjgphkaaDoorIntDigits
import Derived.BigQuiet
namespace Go.Proofs.YtammegdfjgphkaaDoor
open Go.RowKit

theorem news1' (w : World) (x : Value) (e : TypeId) : ∀ (j : Nat) (u : Value), [x][j]? = some u → (w.alloc (Obj.cells #[x] e)).cell? ((⟨w.heap.size, 0, none⟩ : Addr).add j) = some u := news1 w x e
theorem OwnU.append_form {w : World} {B : Nat} {e : TypeId} {v : Value} {n : Nat} {L : List Nat} {x : Nat} (h : w.ownsRow B e 1 v n (cellsU L ++ [Value.int .u64 (x : Int)])) : ∃ a c, v = .slice a n c ∧ OwnU w B e a n c (L ++ [x]) := by
  rw [cellsU_snoc] at h
  exact OwnU.form h
/-- one place more, out of what is carried -/
theorem low_step {G c V : Nat} {L : List Nat} (h : lval G L + c * G ^ L.length = V) : lval G (L ++ [c % G]) + c / G * G ^ (L ++ [c % G]).length = V := by
  have := Nat.div_add_mod c G
  rw [lval_snoc, List.length_append, List.length_singleton, Nat.pow_succ, ← h]
  generalize G ^ L.length = P
  have e : c / G * (P * G) = G * (c / G) * P := by
    rw [Nat.mul_comm P G, ← Nat.mul_assoc, Nat.mul_comm (c / G) G]
  have e2 : c * P = (G * (c / G) + c % G) * P := by rw [this]
  rw [e, e2, Nat.add_mul]
  omega
theorem set_take {L : List Nat} {k x : Nat} (h : k < L.length) : (L.set k x).take (k + 1) = L.take k ++ [x] := by
  rw [List.take_succ_eq_append_getElem (by simpa using h), List.take_set_of_le (Nat.le_refl _)]
  simp
theorem set_drop {L : List Nat} {k x : Nat} : (L.set k x).drop (k + 1) = L.drop (k + 1) := by
  rw [List.drop_set_of_lt (by omega)]
/-- a place multiplied in a row whose places from k on are those of L -/
theorem row_step {G F c k D : Nat} {L L' : List Nat} (hl : L'.length = L.length) (hk : k < L.length) (hd : L'.drop k = L.drop k) (h : lval G (L'.take k) + c * G ^ k = lval G (L.take k) * F + D) :
    ∃ hk' : k < L'.length, L'[k] = L[k] ∧ (L'.set k ((c + L[k] * F) % G)).drop (k + 1) = L.drop (k + 1) ∧ lval G ((L'.set k ((c + L[k] * F) % G)).take (k + 1)) + (c + L[k] * F) / G * G ^ (k + 1) = lval G (L.take (k + 1)) * F + D := by
  have hk' : k < L'.length := by omega
  have e1 : L'[k] = L[k] := by
    have h1 := congrArg (fun l => l[0]?) hd
    simp only [List.getElem?_drop, Nat.add_zero] at h1
    rw [List.getElem?_eq_getElem hk', List.getElem?_eq_getElem hk] at h1
    exact Option.some.inj h1
  refine ⟨hk', e1, ?_, ?_⟩
  · rw [set_drop, ← List.drop_drop, hd, List.drop_drop]
  · rw [set_take hk', lval_snoc, List.length_take, Nat.min_eq_left (by omega), lval_take hk]
    have := mul_step (F := F) (x := L[k]) (lval G (L'.take k)) h
    rw [this, Nat.add_mul]
    omega
theorem set_all {L : List Nat} {k x G : Nat} (h : ∀ y ∈ L, y < G) (hx : x < G) : ∀ y ∈ L.set k x, y < G := by
  intro y hy
  rcases List.mem_or_eq_of_mem_set hy with hy | rfl
  · exact h y hy
  · exact hx

set_option maxRecDepth 100000 in
set_option maxHeartbeats 8000000 in
theorem converted_dec {w : World} {a : Option Addr} {n c : Nat} {l : List UInt8} (h : Bs w a n c l) (hz : n ≤ 1000) :
    Calls Tryd.prog 45 #[.slice a n c, .agg #[.int .u64 256, .int .i64 4, .int .u64 4294967296], .agg #[.int .u64 10, .int .i64 9, .int .u64 1000000000]] w fun e w' => ∃ a' c' r, e = .returned (.slice a' r.length c') ∧ Bs w' a' r.length c' r ∧ Mine w' w.heap.size a' ∧ r.length ≤ n * 18 ∧ dgv 10 r = bnum l ∧ (∀ x ∈ r, x.toNat < 10) ∧ r.head? ≠ some 0 ∧ Below w.heap.size w w' := by
  obtain ⟨i0, hi, hz0, hz1, hz2⟩ := info_parts info_u64
  have HX := Lib.hid h
  have HW := Lib.hid ((Blk.new w 54 #[.int .u64 256, .int .i64 4, .int .u64 4294967296]).alloc (.cells #[.int .u64 10, .int .i64 9, .int .u64 1000000000] 54))
  have HV := Lib.hid (Blk.new (w.alloc (.cells #[.int .u64 256, .int .i64 4, .int .u64 4294967296] 54)) 54 #[.int .u64 10, .int .i64 9, .int .u64 1000000000])
  have hb0 := Lib.hid (bal (bal (Below.refl w.heap.size w) (.cells #[.int .u64 256, .int .i64 4, .int .u64 4294967296] 54)) (.cells #[.int .u64 10, .int .i64 9, .int .u64 1000000000] 54))
  obtain ⟨w1, hw1⟩ : ∃ w1, (w.alloc (.cells #[.int .u64 256, .int .i64 4, .int .u64 4294967296] 54)).alloc (.cells #[.int .u64 10, .int .i64 9, .int .u64 1000000000] 54) = w1 := ⟨_, rfl⟩
  obtain ⟨g, hg⟩ : ∃ g, w.heap.size = g := ⟨_, rfl⟩
  rw [World.size_alloc] at HV
  rw [hw1] at HW HV hb0
  rw [hg] at HW HV
  have y0 := HW.out.cell 0
  have y1 := HW.out.cell 1
  have y2 := HW.out.cell 2
  have yl := HW.out.lt
  have v0 := HV.out.cell 0
  have v1 := HV.out.cell 1
  have v2 := HV.out.cell 2
  have vl := HV.out.lt
  simp only [List.getElem?_toArray, List.getElem?_cons_zero, List.getElem?_cons_succ] at y0 y1 y2 v0 v1 v2
  clear h
  go_enter Tryd.func45, Tryd.ntmps45
  go_wp2_with (go_at_call 56; go_must (refine (groups_256 (HX.out.below hb0.out) (by omega)).mono ?_); rintro e w2 ⟨ag, m, cg, Lg, rfl, hmn, hog, hgl, hgv, q2⟩)
  have hs2 := q2.size
  have hB2 : Hid (Below w.heap.size w w2) := bthen hb0.out q2
  have HU := Lib.hid hog.us
  have HLg := Lib.hid hog.us.len
  have HGL := Lib.hid hgl
  have HGV := Lib.hid hgv
  have HR2 := Lib.hid (HW.out.below q2 yl)
  have HV2 := Lib.hid (HV.out.below q2 vl)
  have hg2 : g < w2.heap.size := by omega
  have hv2 : g + 1 < w2.heap.size := by omega
  clear hog hgl hgv q2 y0 y1 y2 v0 v1 v2
  go_loopw [7, 16] (fun v i wr => ∃ j a' n' c', ∃ L, j ≤ m ∧ i = .int .i64 (j : Nat) ∧ v = .slice a' n' c' ∧ OwnU wr w2.heap.size 52 a' n' c' L ∧ lval 1000000000 L = gval 4294967296 (Lg.take j) ∧ (∀ x ∈ L, x < 1000000000) ∧ n' ≤ 2 * j ∧ Below w2.heap.size w2 wr) (fun _ i _ => m - (intOf i).toNat)
  case atStart => exact ⟨0, none, 0, 0, [], by omega, rfl, rfl, OwnU.nil_ _ _ _, rfl, by simp, by omega, Below.refl _ _⟩
  case round =>
    obtain ⟨j, a', n', c', L, hj, rfl, rfl, ho, hlv, hlt', hn', hb⟩ := hrel
    have HO := Lib.hid ho
    have HB := Lib.hid hb
    have HLV := Lib.hid hlv
    have HLT := Lib.hid hlt'
    have HLL := Lib.hid ho.len
    clear ho hb hlv hlt'
    by_cases hjm : j < m
    · obtain ⟨b, off, hkl, hag, _, hx⟩ := (HU.out.below HB.out).at_ hjm
      subst hag
      have HGT := Lib.hid (gval_take 4294967296 Lg hkl)
      have HXF := Lib.hid (HGL.out _ (List.getElem_mem hkl))
      generalize Lg[j] = x at *
      obtain ⟨D, hD⟩ : ∃ D, Hid (gval 4294967296 (Lg.take (j + 1)) = D) := ⟨_, Lib.hid rfl⟩
      have hj0 : (0 : Int) ≤ j := by omega
      have hj1 : (j : Int) < m := by omega
      clear hkl
      go_wp2
      go_loopw [10, 23] (fun v i wr => ∃ k cy : Nat, ∃ L', k ≤ n' ∧ i = .int .i64 k ∧ v = .int .u64 cy ∧ OwnU wr w2.heap.size 52 a' n' c' L' ∧ L'.drop k = L.drop k ∧ lval 1000000000 (L'.take k) + cy * 1000000000 ^ k = lval 1000000000 (L.take k) * 4294967296 + x ∧ (∀ y ∈ L', y < 1000000000) ∧ cy < 4294967296 ∧ Below w2.heap.size w2 wr) (fun _ i _ => n' - (intOf i).toNat)
      case atStart => exact ⟨0, x, L, by omega, rfl, rfl, HO.out, rfl, by simp [lval], HLT.out, HXF.out, HB.out⟩
      case round =>
        obtain ⟨k, cy, L', hk, rfl, rfl, ho, hdr, hv, hall, hcy, hb⟩ := hrel
        have HB3 := Lib.hid hb
        have HDR := Lib.hid hdr
        have HV3 := Lib.hid hv
        have HAL := Lib.hid hall
        have HCY := Lib.hid hcy
        have hlen := ho.len
        have r3 := HR2.out.below hb hg2
        have v3 := HV2.out.below hb hv2
        have y2 := r3.cell 2
        have x2 := v3.cell 2
        simp only [List.getElem?_toArray, List.getElem?_cons_zero, List.getElem?_cons_succ] at y2 x2
        have yl2 := r3.lt
        have ul2 := v3.lt
        by_cases hkn : k < n'
        · obtain ⟨gl, rfl, hgl1, hgl2⟩ := ho.pos (by omega)
          have hkL : k < L.length := by have := HLL.out; omega
          obtain ⟨hk', e1, e2, e3⟩ := row_step (G := 1000000000) (F := 4294967296) (c := cy) (D := x) (by rw [hlen, HLL.out]) hkL hdr hv
          have hc := ho.cell hk'
          have hf := ho.frozen k
          have hLk : L[k] < 1000000000 := HLT.out _ (List.getElem_mem hkL)
          rw [e1] at hc
          generalize L[k] = z at *
          obtain ⟨p1, p2, p3⟩ := mul_place (F := 4294967296) (G := 1000000000) hcy hLk
          have E2 := Lib.hid e2
          have E3 := Lib.hid e3
          have P2 := Lib.hid p2
          have P3 := Lib.hid p3
          have HST := Lib.hid (ho.stored k ((cy + z * 4294967296) % 1000000000))
          have hm1 : IntKind.u64.wrap ((z : Int) * 4294967296) = (z * 4294967296 : Nat) := by rw [IntKind.wrap_u64]; omega
          have hcy0 : (cy : Int) < 4294967296 := by omega
          have hz1 : (z : Int) < 1000000000 := by omega
          have hk0 : (0 : Int) ≤ k := by omega
          have hk1 : (k : Int) < n' := by omega
          clear ho hb hdr hv hall r3 v3 e1 e2 e3 p1 p2 p3 hkL hk'
          go_wp2
          go_region
          go_wp2
          refine ⟨⟨k + 1, (cy + z * 4294967296) / 1000000000, _, by omega, by go_num, by rw [Int.natCast_ediv, Int.natCast_add, Int.natCast_mul]; rfl, ?_, E2.out, E3.out, set_all HAL.out P3.out, P2.out, below_drewN (HB3.out.setCell (p := ⟨gl, k, none⟩) hgl1 _) 1⟩, by simp [intOf]; omega⟩
          have e := HST.out
          rw [Int.natCast_emod, Int.natCast_add, Int.natCast_mul] at e
          exact e.drewN 1
        · obtain rfl : k = n' := by omega
          have HO3 := Lib.hid ho
          have HV4 : Hid (lval 1000000000 L' + cy * 1000000000 ^ k = D) := by
            show _ = _
            have e := HV3.out
            rw [List.take_of_length_le (by omega), List.take_of_length_le (by have := HLL.out; omega), HLV.out] at e
            rw [e, ← HGT.out, hD.out]
          clear ho hb hdr hv hall r3 v3 hcy
          go_wp2
          go_loopw [7, 10] (fun v cv wr => ∃ t cy n'' c'', ∃ a'' : Option Addr, ∃ L'' : List Nat, v = .slice a'' n'' c'' ∧ cv = .int .u64 (cy : Nat) ∧ OwnU wr w2.heap.size 52 a'' n'' c'' L'' ∧ lval 1000000000 L'' + cy * 1000000000 ^ n'' = D ∧ (∀ y ∈ L'', y < 1000000000) ∧ n'' ≤ 2 * j + t ∧ (t = 0 ∧ cy < 4294967296 ∨ t = 1 ∧ cy < 5 ∨ t = 2 ∧ cy = 0) ∧ Below w2.heap.size w2 wr) (fun _ cv _ => (intOf cv).toNat)
          case atStart => exact ⟨0, cy, k, c', a', L', rfl, rfl, HO3.out, HV4.out, HAL.out, by omega, .inl ⟨rfl, HCY.out⟩, HB3.out⟩
          case round =>
            obtain ⟨t, cy, n2, c2, a2, L2, rfl, rfl, ho, hv, hall, hn2, ht, hb⟩ := hrel
            have HB4 := Lib.hid hb
            have HV5 := Lib.hid hv
            have HAL2 := Lib.hid hall
            have HO4 := Lib.hid ho
            have hlen2 := ho.len
            have v3 := HV2.out.below hb hv2
            have x2 := v3.cell 2
            simp only [List.getElem?_toArray, List.getElem?_cons_zero, List.getElem?_cons_succ] at x2
            have ul2 := v3.lt
            have hsz4 := hb.size
            clear ho hb hv hall v3
            by_cases hc0 : cy = 0
            · subst hc0
              have HF : Hid (lval 1000000000 L2 = D) := by
                show _ = _
                rw [← HV5.out]
                simp
              have ht2 : t ≤ 2 := by omega
              go_wp2
              go_roundw
              case rel => exact ⟨j + 1, a2, n2, c2, L2, by omega, by go_num, rfl, HO4.out, by rw [HF.out, hD.out], HAL2.out, by omega, HB4.out⟩
              case measure => simp [intOf]; omega
            · have hc1 : (0 : Int) < cy := by omega
              have hc2 : (cy : Int) < 4294967296 := by omega
              have hmod : Hid ((((cy % 1000000000 : Nat)) : Int) = (cy : Int) % 1000000000) := by show _ = _; omega
              have hdiv : Hid ((((cy / 1000000000 : Nat)) : Int) = IntKind.u64.wrap ((cy : Int).tdiv 1000000000)) := by
                show _ = _
                rw [Int.tdiv_eq_ediv_of_nonneg (by omega), IntKind.wrap_u64]
                omega
              have ht2 : t ≤ 2 := by omega
              have HT := Lib.hid ht
              have HC2 := Lib.hid hc2
              clear ht hc0 hc2
              obtain ⟨C, hC⟩ : ∃ C : Int, (cy : Int) = C := ⟨_, rfl⟩
              rw [hC] at hc1 hmod hdiv HC2 ⊢
              have HC := Lib.hid hC
              clear hC
              have HLS := Lib.hid (low_step (G := 1000000000) (c := cy) (L := L2) (V := D) (by rw [hlen2]; exact HV5.out))
              go_wp2_with (at_builtin; go_must (refine wpList_append_own _ rfl _ _ 64 rfl w2.heap.size 52 i0 (.int .u64 0) 1 8 Tryd.underlying64 hi hz0 hz1 hz2 rfl (by decide) _ _ (cellsU L2) rfl (HO4.out.alloc _) ⟨wr.heap.size, 0, none⟩ 1 1 [.int .u64 (C % 1000000000)] rfl rfl ?c1 ?c2 ?c3 ?c4 ?c5 ?_))
              case c1 => exact news1 _ _ _
              case c2 => intro q hq; simp only [List.mem_singleton] at hq; subst hq; rfl
              case c3 => unfold maxLen; omega
              case c4 => omega
              case c5 => simp; omega
              intro v' w4 hown hgrow _
              rw [← hmod.out] at hown
              obtain ⟨a3, c3, rfl, ho3⟩ := OwnU.append_form hown
              have HO5 := Lib.hid ho3
              have HB5 : Hid (Below w2.heap.size w2 w4) := by
                refine (HB4.out.alloc hsz4 _).grown hgrow (by simp; omega) ?_
                intro kk hkk
                cases a2 with
                | none => simp [Value.ownBlock] at hkk
                | some xx =>
                  simp only [Value.ownBlock, Option.some.injEq] at hkk
                  have := (HO4.out.base xx rfl).1
                  omega
              have v4 := HV2.out.below HB5.out hv2
              have x4 := v4.cell 2
              have ul4 := v4.lt
              simp only [List.getElem?_toArray, List.getElem?_cons_zero, List.getElem?_cons_succ] at x4
              clear hown hgrow ho3 v4
              go_wp2
              go_roundw
              case rel =>
                refine ⟨t + 1, cy / 1000000000, n2 + 1, c3, a3, L2 ++ [cy % 1000000000], rfl, by rw [← hdiv.out], HO5.out, ?_, ?_, by omega, ?_, HB5.out⟩
                · have e := HLS.out
                  rw [List.length_append, List.length_singleton, hlen2] at e
                  exact e
                · intro y hy
                  rcases List.mem_append.1 hy with hy | hy
                  · exact HAL2.out y hy
                  · simp only [List.mem_singleton] at hy
                    subst hy
                    exact Nat.mod_lt _ (by omega)
                · have h1 := HT.out
                  have h2 := HC.out
                  omega
              case measure =>
                have h2 := HC.out
                rw [← hdiv.out]
                simp only [intOf]
                omega
    · have hjm2 : j = m := by omega
      subst hjm2
      have HD0 := Lib.hid (digits_10 HO.out.us HLT.out (by omega))
      have HLV2 : Hid (lval 1000000000 L = bnum l) := by
        show _ = _
        rw [HLV.out, List.take_of_length_le (by have := HLg.out; omega), HGV.out]
      have v3 := HV2.out.below HB.out hv2
      have x0 := v3.cell 0
      have x1 := v3.cell 1
      have x2 := v3.cell 2
      have ul2 := v3.lt
      simp only [List.getElem?_toArray, List.getElem?_cons_zero, List.getElem?_cons_succ] at x0 x1 x2
      have hsz := HB.out.size
      go_wp2_with (go_at_call 57; go_must (refine HD0.out.mono ?_); rintro e w5 ⟨a5, c5, r, rfl, hr1, hr2, hr3, hr4, hr5, hr6, hr7⟩)
      go_ret
      have HBF : Below w.heap.size w w5 := bthen (bthen hB2.out HB.out) hr7
      refine ⟨a5, c5, r, rfl, hr1, hr2.more (by have := hB2.out.size; omega), by omega, ?_, hr5, hr6, HBF⟩
      rw [hr4]
      exact HLV2.out

set_option maxRecDepth 100000 in
set_option maxHeartbeats 8000000 in
theorem converted_oct {w : World} {a : Option Addr} {n c : Nat} {l : List UInt8} (h : Bs w a n c l) (hz : n ≤ 1000) (h10 : ∀ x ∈ l, x.toNat < 10) :
    Calls Tryd.prog 45 #[.slice a n c, .agg #[.int .u64 10, .int .i64 9, .int .u64 1000000000], .agg #[.int .u64 256, .int .i64 4, .int .u64 4294967296]] w fun e w' => ∃ a' c' r, e = .returned (.slice a' r.length c') ∧ Bs w' a' r.length c' r ∧ Mine w' w.heap.size a' ∧ r.length ≤ n * 18 ∧ bnum r = dgv 10 l ∧ (∀ x ∈ r, x.toNat < 256) ∧ r.head? ≠ some 0 ∧ Below w.heap.size w w' := by
  obtain ⟨i0, hi, hz0, hz1, hz2⟩ := info_parts info_u64
  have HX := Lib.hid h
  have H10 := Lib.hid h10
  have HW := Lib.hid ((Blk.new w 54 #[.int .u64 10, .int .i64 9, .int .u64 1000000000]).alloc (.cells #[.int .u64 256, .int .i64 4, .int .u64 4294967296] 54))
  have HV := Lib.hid (Blk.new (w.alloc (.cells #[.int .u64 10, .int .i64 9, .int .u64 1000000000] 54)) 54 #[.int .u64 256, .int .i64 4, .int .u64 4294967296])
  have hb0 := Lib.hid (bal (bal (Below.refl w.heap.size w) (.cells #[.int .u64 10, .int .i64 9, .int .u64 1000000000] 54)) (.cells #[.int .u64 256, .int .i64 4, .int .u64 4294967296] 54))
  obtain ⟨w1, hw1⟩ : ∃ w1, (w.alloc (.cells #[.int .u64 10, .int .i64 9, .int .u64 1000000000] 54)).alloc (.cells #[.int .u64 256, .int .i64 4, .int .u64 4294967296] 54) = w1 := ⟨_, rfl⟩
  obtain ⟨g, hg⟩ : ∃ g, w.heap.size = g := ⟨_, rfl⟩
  rw [World.size_alloc] at HV
  rw [hw1] at HW HV hb0
  rw [hg] at HW HV
  have y0 := HW.out.cell 0
  have y1 := HW.out.cell 1
  have y2 := HW.out.cell 2
  have yl := HW.out.lt
  have v0 := HV.out.cell 0
  have v1 := HV.out.cell 1
  have v2 := HV.out.cell 2
  have vl := HV.out.lt
  simp only [List.getElem?_toArray, List.getElem?_cons_zero, List.getElem?_cons_succ] at y0 y1 y2 v0 v1 v2
  clear h h10
  go_enter Tryd.func45, Tryd.ntmps45
  go_wp2_with (go_at_call 56; go_must (refine (groups_10 (HX.out.below hb0.out) (by omega) H10.out).mono ?_); rintro e w2 ⟨ag, m, cg, Lg, rfl, hmn, hog, hgl, hgv, q2⟩)
  have hs2 := q2.size
  have hB2 : Hid (Below w.heap.size w w2) := bthen hb0.out q2
  have HU := Lib.hid hog.us
  have HLg := Lib.hid hog.us.len
  have HGL := Lib.hid hgl
  have HGV := Lib.hid hgv
  have HR2 := Lib.hid (HW.out.below q2 yl)
  have HV2 := Lib.hid (HV.out.below q2 vl)
  have hg2 : g < w2.heap.size := by omega
  have hv2 : g + 1 < w2.heap.size := by omega
  clear hog hgl hgv q2 y0 y1 y2 v0 v1 v2
  go_loopw [7, 16] (fun v i wr => ∃ j a' n' c', ∃ L, j ≤ m ∧ i = .int .i64 (j : Nat) ∧ v = .slice a' n' c' ∧ OwnU wr w2.heap.size 52 a' n' c' L ∧ lval 4294967296 L = gval 1000000000 (Lg.take j) ∧ (∀ x ∈ L, x < 4294967296) ∧ n' ≤ 2 * j ∧ Below w2.heap.size w2 wr) (fun _ i _ => m - (intOf i).toNat)
  case atStart => exact ⟨0, none, 0, 0, [], by omega, rfl, rfl, OwnU.nil_ _ _ _, rfl, by simp, by omega, Below.refl _ _⟩
  case round =>
    obtain ⟨j, a', n', c', L, hj, rfl, rfl, ho, hlv, hlt', hn', hb⟩ := hrel
    have HO := Lib.hid ho
    have HB := Lib.hid hb
    have HLV := Lib.hid hlv
    have HLT := Lib.hid hlt'
    have HLL := Lib.hid ho.len
    clear ho hb hlv hlt'
    by_cases hjm : j < m
    · obtain ⟨b, off, hkl, hag, _, hx⟩ := (HU.out.below HB.out).at_ hjm
      subst hag
      have HGT := Lib.hid (gval_take 1000000000 Lg hkl)
      have HXF := Lib.hid (HGL.out _ (List.getElem_mem hkl))
      generalize Lg[j] = x at *
      obtain ⟨D, hD⟩ : ∃ D, Hid (gval 1000000000 (Lg.take (j + 1)) = D) := ⟨_, Lib.hid rfl⟩
      have hj0 : (0 : Int) ≤ j := by omega
      have hj1 : (j : Int) < m := by omega
      clear hkl
      go_wp2
      go_loopw [10, 23] (fun v i wr => ∃ k cy : Nat, ∃ L', k ≤ n' ∧ i = .int .i64 k ∧ v = .int .u64 cy ∧ OwnU wr w2.heap.size 52 a' n' c' L' ∧ L'.drop k = L.drop k ∧ lval 4294967296 (L'.take k) + cy * 4294967296 ^ k = lval 4294967296 (L.take k) * 1000000000 + x ∧ (∀ y ∈ L', y < 4294967296) ∧ cy < 1000000000 ∧ Below w2.heap.size w2 wr) (fun _ i _ => n' - (intOf i).toNat)
      case atStart => exact ⟨0, x, L, by omega, rfl, rfl, HO.out, rfl, by simp [lval], HLT.out, HXF.out, HB.out⟩
      case round =>
        obtain ⟨k, cy, L', hk, rfl, rfl, ho, hdr, hv, hall, hcy, hb⟩ := hrel
        have HB3 := Lib.hid hb
        have HDR := Lib.hid hdr
        have HV3 := Lib.hid hv
        have HAL := Lib.hid hall
        have HCY := Lib.hid hcy
        have hlen := ho.len
        have r3 := HR2.out.below hb hg2
        have v3 := HV2.out.below hb hv2
        have y2 := r3.cell 2
        have x2 := v3.cell 2
        simp only [List.getElem?_toArray, List.getElem?_cons_zero, List.getElem?_cons_succ] at y2 x2
        have yl2 := r3.lt
        have ul2 := v3.lt
        by_cases hkn : k < n'
        · obtain ⟨gl, rfl, hgl1, hgl2⟩ := ho.pos (by omega)
          have hkL : k < L.length := by have := HLL.out; omega
          obtain ⟨hk', e1, e2, e3⟩ := row_step (G := 4294967296) (F := 1000000000) (c := cy) (D := x) (by rw [hlen, HLL.out]) hkL hdr hv
          have hc := ho.cell hk'
          have hf := ho.frozen k
          have hLk : L[k] < 4294967296 := HLT.out _ (List.getElem_mem hkL)
          rw [e1] at hc
          generalize L[k] = z at *
          obtain ⟨p1, p2, p3⟩ := mul_place (F := 1000000000) (G := 4294967296) hcy hLk
          have E2 := Lib.hid e2
          have E3 := Lib.hid e3
          have P2 := Lib.hid p2
          have P3 := Lib.hid p3
          have HST := Lib.hid (ho.stored k ((cy + z * 1000000000) % 4294967296))
          have hm1 : IntKind.u64.wrap ((z : Int) * 1000000000) = (z * 1000000000 : Nat) := by rw [IntKind.wrap_u64]; omega
          have hcy0 : (cy : Int) < 1000000000 := by omega
          have hz1 : (z : Int) < 4294967296 := by omega
          have hk0 : (0 : Int) ≤ k := by omega
          have hk1 : (k : Int) < n' := by omega
          clear ho hb hdr hv hall r3 v3 e1 e2 e3 p1 p2 p3 hkL hk'
          go_wp2
          go_region
          go_wp2
          refine ⟨⟨k + 1, (cy + z * 1000000000) / 4294967296, _, by omega, by go_num, by rw [Int.natCast_ediv, Int.natCast_add, Int.natCast_mul]; rfl, ?_, E2.out, E3.out, set_all HAL.out P3.out, P2.out, below_drewN (HB3.out.setCell (p := ⟨gl, k, none⟩) hgl1 _) 1⟩, by simp [intOf]; omega⟩
          have e := HST.out
          rw [Int.natCast_emod, Int.natCast_add, Int.natCast_mul] at e
          exact e.drewN 1
        · obtain rfl : k = n' := by omega
          have HO3 := Lib.hid ho
          have HV4 : Hid (lval 4294967296 L' + cy * 4294967296 ^ k = D) := by
            show _ = _
            have e := HV3.out
            rw [List.take_of_length_le (by omega), List.take_of_length_le (by have := HLL.out; omega), HLV.out] at e
            rw [e, ← HGT.out, hD.out]
          clear ho hb hdr hv hall r3 v3 hcy
          go_wp2
          go_loopw [7, 10] (fun v cv wr => ∃ t cy n'' c'', ∃ a'' : Option Addr, ∃ L'' : List Nat, v = .slice a'' n'' c'' ∧ cv = .int .u64 (cy : Nat) ∧ OwnU wr w2.heap.size 52 a'' n'' c'' L'' ∧ lval 4294967296 L'' + cy * 4294967296 ^ n'' = D ∧ (∀ y ∈ L'', y < 4294967296) ∧ n'' ≤ 2 * j + t ∧ (t = 0 ∧ cy < 1000000000 ∨ t = 1 ∧ cy < 5 ∨ t = 2 ∧ cy = 0) ∧ Below w2.heap.size w2 wr) (fun _ cv _ => (intOf cv).toNat)
          case atStart => exact ⟨0, cy, k, c', a', L', rfl, rfl, HO3.out, HV4.out, HAL.out, by omega, .inl ⟨rfl, HCY.out⟩, HB3.out⟩
          case round =>
            obtain ⟨t, cy, n2, c2, a2, L2, rfl, rfl, ho, hv, hall, hn2, ht, hb⟩ := hrel
            have HB4 := Lib.hid hb
            have HV5 := Lib.hid hv
            have HAL2 := Lib.hid hall
            have HO4 := Lib.hid ho
            have hlen2 := ho.len
            have v3 := HV2.out.below hb hv2
            have x2 := v3.cell 2
            simp only [List.getElem?_toArray, List.getElem?_cons_zero, List.getElem?_cons_succ] at x2
            have ul2 := v3.lt
            have hsz4 := hb.size
            clear ho hb hv hall v3
            by_cases hc0 : cy = 0
            · subst hc0
              have HF : Hid (lval 4294967296 L2 = D) := by
                show _ = _
                rw [← HV5.out]
                simp
              have ht2 : t ≤ 2 := by omega
              go_wp2
              go_roundw
              case rel => exact ⟨j + 1, a2, n2, c2, L2, by omega, by go_num, rfl, HO4.out, by rw [HF.out, hD.out], HAL2.out, by omega, HB4.out⟩
              case measure => simp [intOf]; omega
            · have hc1 : (0 : Int) < cy := by omega
              have hc2 : (cy : Int) < 1000000000 := by omega
              have hmod : Hid ((((cy % 4294967296 : Nat)) : Int) = (cy : Int) % 4294967296) := by show _ = _; omega
              have hdiv : Hid ((((cy / 4294967296 : Nat)) : Int) = IntKind.u64.wrap ((cy : Int).tdiv 4294967296)) := by
                show _ = _
                rw [Int.tdiv_eq_ediv_of_nonneg (by omega), IntKind.wrap_u64]
                omega
              have ht2 : t ≤ 2 := by omega
              have HT := Lib.hid ht
              have HC2 := Lib.hid hc2
              clear ht hc0 hc2
              obtain ⟨C, hC⟩ : ∃ C : Int, (cy : Int) = C := ⟨_, rfl⟩
              rw [hC] at hc1 hmod hdiv HC2 ⊢
              have HC := Lib.hid hC
              clear hC
              have HLS := Lib.hid (low_step (G := 4294967296) (c := cy) (L := L2) (V := D) (by rw [hlen2]; exact HV5.out))
              go_wp2_with (at_builtin; go_must (refine wpList_append_own _ rfl _ _ 64 rfl w2.heap.size 52 i0 (.int .u64 0) 1 8 Tryd.underlying64 hi hz0 hz1 hz2 rfl (by decide) _ _ (cellsU L2) rfl (HO4.out.alloc _) ⟨wr.heap.size, 0, none⟩ 1 1 [.int .u64 (C % 4294967296)] rfl rfl ?c1 ?c2 ?c3 ?c4 ?c5 ?_))
              case c1 => exact news1 _ _ _
              case c2 => intro q hq; simp only [List.mem_singleton] at hq; subst hq; rfl
              case c3 => unfold maxLen; omega
              case c4 => omega
              case c5 => simp; omega
              intro v' w4 hown hgrow _
              rw [← hmod.out] at hown
              obtain ⟨a3, c3, rfl, ho3⟩ := OwnU.append_form hown
              have HO5 := Lib.hid ho3
              have HB5 : Hid (Below w2.heap.size w2 w4) := by
                refine (HB4.out.alloc hsz4 _).grown hgrow (by simp; omega) ?_
                intro kk hkk
                cases a2 with
                | none => simp [Value.ownBlock] at hkk
                | some xx =>
                  simp only [Value.ownBlock, Option.some.injEq] at hkk
                  have := (HO4.out.base xx rfl).1
                  omega
              have v4 := HV2.out.below HB5.out hv2
              have x4 := v4.cell 2
              have ul4 := v4.lt
              simp only [List.getElem?_toArray, List.getElem?_cons_zero, List.getElem?_cons_succ] at x4
              clear hown hgrow ho3 v4
              go_wp2
              go_roundw
              case rel =>
                refine ⟨t + 1, cy / 4294967296, n2 + 1, c3, a3, L2 ++ [cy % 4294967296], rfl, by rw [← hdiv.out], HO5.out, ?_, ?_, by omega, ?_, HB5.out⟩
                · have e := HLS.out
                  rw [List.length_append, List.length_singleton, hlen2] at e
                  exact e
                · intro y hy
                  rcases List.mem_append.1 hy with hy | hy
                  · exact HAL2.out y hy
                  · simp only [List.mem_singleton] at hy
                    subst hy
                    exact Nat.mod_lt _ (by omega)
                · have h1 := HT.out
                  have h2 := HC.out
                  omega
              case measure =>
                have h2 := HC.out
                rw [← hdiv.out]
                simp only [intOf]
                omega
    · have hjm2 : j = m := by omega
      subst hjm2
      have HD0 := Lib.hid (digits_256 HO.out.us HLT.out (by omega))
      have HLV2 : Hid (lval 4294967296 L = dgv 10 l) := by
        show _ = _
        rw [HLV.out, List.take_of_length_le (by have := HLg.out; omega), HGV.out]
      have v3 := HV2.out.below HB.out hv2
      have x0 := v3.cell 0
      have x1 := v3.cell 1
      have x2 := v3.cell 2
      have ul2 := v3.lt
      simp only [List.getElem?_toArray, List.getElem?_cons_zero, List.getElem?_cons_succ] at x0 x1 x2
      have hsz := HB.out.size
      go_wp2_with (go_at_call 57; go_must (refine HD0.out.mono ?_); rintro e w5 ⟨a5, c5, r, rfl, hr1, hr2, hr3, hr4, hr5, hr6, hr7⟩)
      go_ret
      have HBF : Below w.heap.size w w5 := bthen (bthen hB2.out HB.out) hr7
      refine ⟨a5, c5, r, rfl, hr1, hr2.more (by have := hB2.out.size; omega), by omega, ?_, hr5, hr6, HBF⟩
      rw [← dgv_256, hr4]
      exact HLV2.out
end Go.Proofs.YtammegdfjgphkaaDoor
