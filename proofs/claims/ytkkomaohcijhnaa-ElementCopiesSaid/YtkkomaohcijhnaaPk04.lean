/-
  Lemmas and contracts of functions, for the proofs of this seat's laws; nothing of a law.
-/
import Derived.OwnWalk
import Derived.Test.YtkkomaohcijhnaaChecked
import Derived.WalkKit
import Derived.ProofKit
import Derived.Below
import Derived.Outline
import Derived.Lib.Hide
import Derived.Deep.DeepMust
import Derived.WalkLawsBesides
import Derived.Test.YtkkomaohcijhnaaRows
import Derived.OpenShut
import Derived.ShutString
import Derived.ChangeOld
import Derived.Lib.SmallJoins
import Derived.Deep.Slices
import Derived.Deep.Fields
import Derived.SizedLaws
import Derived.Test.YtkkomaohcijhnaaPk01
import Derived.Test.YtkkomaohcijhnaaPk02
import Derived.Test.YtkkomaohcijhnaaPk03
namespace Go.Proofs.Ytkkomaohcijhnaa
open Go.RowKit
def strOf (l : List UInt8) : Value := .string ⟨l.toArray⟩
def tagV (x : El) : Value := strOf (tagS x)
def tagRow (es : List El) (n j : Nat) : List Value := (es.take j).map tagV ++ List.replicate (n - j) (strOf [])
theorem tagRow_zero (es : List El) (n : Nat) : tagRow es n 0 = List.replicate n (strOf []) := by simp [tagRow]
theorem tagRow_len {es : List El} {n j : Nat} (h : es.length = n) (hj : j ≤ n) : (tagRow es n j).length = n := by
  unfold tagRow
  rw [List.length_append, List.length_map, List.length_take, List.length_replicate]
  omega
theorem tagRow_set {es : List El} {n j : Nat} (h : es.length = n) (hj : j < n) : (tagRow es n j).set j (tagV (es[j]'(by omega))) = tagRow es n (j + 1) := by
  obtain ⟨m, hm⟩ : ∃ m, n - j = m + 1 := ⟨n - j - 1, by omega⟩
  have hm2 : n - (j + 1) = m := by omega
  unfold tagRow
  rw [hm, hm2, List.take_succ_eq_append_getElem (by omega), List.map_append, List.set_append_right _ _ (by rw [List.length_map, List.length_take]; omega)]
  rw [List.length_map, List.length_take, Nat.min_eq_left (by omega), Nat.sub_self, List.replicate_succ, List.set_cons_zero]
  simp
theorem tagRow_all {es : List El} {n : Nat} (h : es.length = n) : tagRow es n n = es.map tagV := by
  unfold tagRow
  rw [List.take_of_length_le (by omega), Nat.sub_self]
  simp
theorem tags_join (es : List El) : Lib.join (es.map tagS) [32] = tagsR es := by
  cases es with
  | nil => rfl
  | cons x r =>
    rw [List.map_cons, Lib.join_cons]
    show tagS x ++ _ = tagS x ++ _
    congr 1
    unfold Lib.joinTail
    rw [List.map_map]
    rfl
theorem info_partsT {o : Option TypeInfo} {z : Value} {a b : Nat} (h : o.map (fun i => (i.zero, i.size, i.bytes)) = some (some z, a, b)) : ∃ i, o = some i ∧ i.zero = some z ∧ i.size = a ∧ i.bytes = b := info_partsE h
theorem info_str : (Try.prog.info? 9).map (fun i => (i.zero, i.size, i.bytes)) = some (some (strOf []), 1, 16) := by kernel_rfl
theorem join_all {w : World} {g c : Nat} {es : List El} {n : Nat} (ho : OwnV w 0 9 (some ⟨g, 0, none⟩) n c (es.map tagV)) (hn : n ≤ 1000000) :
    Calls Try.prog 35 #[.slice (some ⟨g, 0, none⟩) n c, .string ⟨#[32]⟩] w fun e w' => e = .returned (.string ⟨(tagsR es).toArray⟩) ∧ Below w.heap.size w w' := by
  have hl : es.length = n := by have := ho.1; rwa [List.length_map] at this
  have h := Try.strings_Join g 0 c (es.map fun x => ⟨(tagS x).toArray⟩) ⟨#[32]⟩ w (fun j x hj => by
    rw [List.getElem?_map, Option.map_eq_some_iff] at hj
    obtain ⟨y, hy, rfl⟩ := hj
    obtain ⟨hjl, rfl⟩ := List.getElem?_eq_some_iff.1 hy
    have hc := ho.cell (j := j) (by rw [List.length_map]; exact hjl)
    rw [Nat.zero_add, hc, List.getElem_map]
    rfl) ((ho.base _ rfl).2) (by rw [List.length_map]; omega) (by rw [List.length_map]; have := ho.cap.1; omega) (by
      have e : (es.map fun x => (⟨(tagS x).toArray⟩ : ByteArray)).map (·.data.toList) = es.map tagS := by rw [List.map_map]; rfl
      rw [e]
      show (Lib.join (es.map tagS) [32]).length ≤ _
      rw [tags_join]
      have := tagsR_len es
      omega)
  have e : (es.map fun x => (⟨(tagS x).toArray⟩ : ByteArray)).map (·.data.toList) = es.map tagS := by rw [List.map_map]; rfl
  rw [e, List.length_map, hl] at h
  have e2 : Lib.join (es.map tagS) (⟨#[32]⟩ : ByteArray).data.toList = tagsR es := tags_join es
  rw [e2] at h
  exact h
set_option maxRecDepth 100000 in
set_option maxHeartbeats 8000000 in
theorem tags_any {w : World} {a : Option Addr} {n c : Nat} {es : List El} (hx : Ew w a n c es) (hz : n ≤ 1000000) :
    Calls Try.prog 17 #[.slice a n c] w fun e w' => e = .returned (.string ⟨(tagsR es).toArray⟩) ∧ Below w.heap.size w w' := by
  obtain ⟨i0, hi, hz0, hz1, hz2⟩ := info_partsT info_str
  have HX := Lib.hid hx
  have HL := Lib.hid hx.len
  have hn : (n : Int) ≤ 1000000 := by omega
  have HJ := Lib.hid (fun v g c (h : OwnV v 0 9 (some ⟨g, 0, none⟩) n c (es.map tagV)) => join_all h hz)
  have h3 := fun (v : World) (xc xn : Int) (xk : Bool) (xs xb xe : Int) => tag_any ⟨xc, xn, xk, xs, xb, xe⟩ v
  unfold elV at h3
  dsimp only at h3
  have H3 := Lib.hid h3
  clear h3 hx
  obtain ⟨A, hA⟩ : ∃ A, w.heap.size = A := ⟨_, rfl⟩
  go_enter Try.func17, Try.ntmps17
  go_wp2_with (at_make; go_must (refine wpList_make_full _ rfl _ _ 59 rfl w.heap.size 9 i0 (strOf []) 1 Try.underlying59 hi hz0 hz1 .i64 .i64 _ _ n rfl rfl rfl rfl (by rw [hz2]; omega) (by unfold maxLen; omega) (Nat.le_refl _) ?_); intro w1 ho1 hg1)
  rw [made_vals _ rfl] at ho1
  have HO : Hid (OwnV w1 w.heap.size 9 (some ⟨w.heap.size, 0, none⟩) n n (tagRow es n 0)) := by
    rw [tagRow_zero]
    exact ⟨List.length_replicate, ho1⟩
  have HB1 := Lib.hid ((Below.refl w.heap.size w).grown hg1 (Nat.le_refl _) (fun _ h => by cases h))
  clear ho1 hg1
  rw [hA] at HO HB1
  go_loopw [11] (fun i wr => ∃ j : Nat, j ≤ n ∧ i = .int .i64 j ∧ OwnV wr A 9 (some ⟨A, 0, none⟩) n n (tagRow es n j) ∧ Below A w wr) (fun i _ => n - (intOf i).toNat)
  case atStart => exact ⟨0, Nat.zero_le _, rfl, HO.out, HB1.out⟩
  case round =>
    obtain ⟨j, hj, rfl, ho, hb⟩ := hrel
    have O4 := Lib.hid ho
    have Q4 := Lib.hid hb
    have X4 : Hid (Ew wr a n c es) := HX.out.below (by rw [hA]; exact hb)
    have hAz := (ho.base _ rfl).2
    dsimp only at hAz
    clear ho hb HO HB1
    have hj0 : (0 : Int) ≤ j := by omega
    by_cases hlt : j < n
    · have hlt2 : (j : Int) < n := by omega
      obtain ⟨b, off, hl, rfl, hb, p0, p1, p2, p3, p4, p5⟩ := X4.out.at_ hlt
      have TS := Lib.hid (tagRow_set (es := es) HL.out hlt)
      obtain ⟨x, hxx⟩ : ∃ x, es[j] = x := ⟨_, rfl⟩
      rw [hxx] at p0 p1 p2 p3 p4 p5
      have TS2 : Hid ((tagRow es n j).set j (tagV x) = tagRow es n (j + 1)) := by rw [← hxx]; exact TS.out
      clear hxx TS hl
      obtain ⟨xc, xn, xk, xs, xb, xe⟩ := x
      dsimp only at p0 p1 p2 p3 p4 p5
      have TV : Hid (tagV ⟨xc, xn, xk, xs, xb, xe⟩ = .string ⟨(tagS ⟨xc, xn, xk, xs, xb, xe⟩).toArray⟩) := rfl
      obtain ⟨D, hD⟩ : ∃ D, wr.heap.size = D := ⟨_, rfl⟩
      have lD : A < D := by omega
      have T5 : Hid (Blk (wr.alloc (.cells #[.int .i64 xc, .int .i64 xn, .bool xk, .int .i64 xs, .int .i64 xb, .int .i64 xe] 25)) D 25 #[.int .i64 xc, .int .i64 xn, .bool xk, .int .i64 xs, .int .i64 xb, .int .i64 xe]) := by
        rw [← hD]
        exact Blk.new wr 25 #[.int .i64 xc, .int .i64 xn, .bool xk, .int .i64 xs, .int .i64 xb, .int .i64 xe]
      have O5 := Lib.hid (O4.out.alloc (.cells #[.int .i64 xc, .int .i64 xn, .bool xk, .int .i64 xs, .int .i64 xb, .int .i64 xe] 25))
      have Q5 := Lib.hid (Q4.out.alloc (by omega) (.cells #[.int .i64 xc, .int .i64 xn, .bool xk, .int .i64 xs, .int .i64 xb, .int .i64 xe] 25))
      go_upto_region 5 with fail
      generalize wr.alloc (.cells #[.int .i64 xc, .int .i64 xn, .bool xk, .int .i64 xs, .int .i64 xb, .int .i64 xe] 25) = w5 at *
      clear p0 p1 p2 p3 p4 p5 hb
      obtain ⟨t0, t1, t2, t3, t4, t5⟩ := T5.out.cellsE
      go_wp2_with fail
      with_reducible refine (H3.out _ _ _ _ _ _ _).mono ?_
      rintro e w6 ⟨rfl, q⟩
      have O6 := Lib.hid (O5.out.below q)
      have Q6 := Lib.hid (Q5.out.trans (q.mono (by have := (O5.out.base _ rfl).2; dsimp only at this; omega)))
      clear q t0 t1 t2 t3 t4 t5 T5 O4 Q4 X4 O5 Q5
      have hcl := O6.out.cell (j := j) (by rw [tagRow_len HL.out (by omega)]; exact hlt)
      have hfr := O6.out.frozen j
      have O7 := Lib.hid (O6.out.stored j (.string ⟨(tagS ⟨xc, xn, xk, xs, xb, xe⟩).toArray⟩))
      rw [← TV.out, TS2.out, TV.out] at O7
      have Q7 := Lib.hid (belowS Q6.out (Nat.le_refl A) j (.string ⟨(tagS ⟨xc, xn, xk, xs, xb, xe⟩).toArray⟩))
      go_wp2_with fail
      go_roundw
      case rel => exact ⟨j + 1, by omega, by go_num, O7.out, Q7.out⟩
      case measure => simp [intOf]; omega
    · obtain rfl : j = n := by omega
      have hlt2 : ¬ (j : Int) < j := by omega
      rw [tagRow_all HL.out] at O4
      go_wp2_with fail
      with_reducible refine (HJ.out _ _ _ (O4.out.more (Nat.zero_le _))).mono ?_
      rintro e w6 ⟨rfl, q⟩
      have Q6 := Lib.hid (Q4.out.trans (q.mono (by omega)))
      clear q
      go_wp2_with fail
      go_ret
      exact ⟨rfl, by rw [hA]; exact Q6.out⟩
end Go.Proofs.Ytkkomaohcijhnaa
namespace Go.Proofs.Ytkkomaohcijhnaa
open Go.RowKit
def fstR (l : List UInt8) (p : Nat) : RO := if (rdNext l).h.code = 0 then ⟨elOf (rdNext l).h p, 0, 0⟩ else ⟨el0, (rdNext l).h.code, (rdNext l).h.off + p⟩
theorem fst_head {l : List UInt8} (p : Nat) (h : (rdHead l).code ≠ 0) : fstR l p = ⟨el0, (rdHead l).code, (rdHead l).off + p⟩ ∧ (rdHead l).off ≤ l.length := by
  have e : rdNext l = ⟨rdHead l, [], []⟩ := by unfold rdNext; rw [if_neg h]
  have h2 : (rdNext l).h.code ≠ 0 := by rw [e]; exact h
  have hw := within_next h2
  refine ⟨by unfold fstR; rw [if_neg h2, e], ?_⟩
  rw [e] at hw
  exact hw.1
theorem fst_short {l : List UInt8} (p : Nat) (h : (rdHead l).code = 0) (h2 : l.length - (rdHead l).size < (rdHead l).len) : fstR l p = ⟨el0, 1, l.length + p⟩ := by
  have e : rdNext l = ⟨noHd 1 l.length, [], []⟩ := by unfold rdNext; rw [if_pos h, if_pos h2]
  unfold fstR
  rw [e]
  rfl
theorem fst_ok {l : List UInt8} (p : Nat) (h : (rdHead l).code = 0) (h2 : ¬ l.length - (rdHead l).size < (rdHead l).len) : fstR l p = ⟨elOf (rdHead l) p, 0, 0⟩ := by
  have e : (rdNext l).h = rdHead l := by unfold rdNext; rw [if_pos h, if_neg h2]
  unfold fstR
  rw [e, if_pos h]
set_option maxRecDepth 100000 in
set_option maxHeartbeats 8000000 in
theorem first_some {w : World} {b off n c : Nat} {l : List UInt8} (hx : Bs w (some ⟨b, off, none⟩) n c l) (hz : n ≤ 1000000) (p t : Nat) (hpt : p < t) (htn : t ≤ n) :
    Calls Try.prog 32 #[.slice (some ⟨b, off, none⟩) n c, .int .i64 p, .int .i64 t] w fun e w' => e = .returned (.tuple #[elV (fstR ((l.take t).drop p) p).el, erV (fstR ((l.take t).drop p) p).code (fstR ((l.take t).drop p) p).off]) ∧ Below w.heap.size w w' := by
  obtain ⟨L, hL⟩ : ∃ L, (l.take t).drop p = L := ⟨_, rfl⟩
  have hL2 : (l.drop p).take (t - p) = L := by rw [← hL, List.drop_take]
  have XS := bs_mid hx (i := p) (m := t - p) (by omega) (by omega)
  rw [hL2] at XS
  have hcc : t - p ≤ c - p := by have := hx.2.1; omega
  have XT : Bs w (some ⟨b, off + p, none⟩) (t - p) (t - p) L := ⟨XS.1, Nat.le_refl _, by have := XS.2.1; have := XS.2.2.1; omega, XS.2.2.2⟩
  have hLl : L.length = t - p := XT.len
  have hnc := hx.2.1
  have hcm : c ≤ 9223372036854775807 := by have := hx.2.2.1; unfold maxLen at this; omega
  rw [hL]
  clear XS hL hL2 hx
  have HLL := Lib.hid hLl
  obtain ⟨w2, hw2⟩ : ∃ w2, (w.alloc (.cells #[.int .i64 0, .int .i64 0, .bool false, .int .i64 0, .int .i64 0, .int .i64 0] 25)).alloc (.cells #[.int .i64 0, .int .i64 0] 28) = w2 := ⟨_, rfl⟩
  obtain ⟨H, hH⟩ : ∃ H, w.heap.size = H := ⟨_, rfl⟩
  rw [hH]
  have R2 : Hid (Blk w2 H 25 #[.int .i64 0, .int .i64 0, .bool false, .int .i64 0, .int .i64 0, .int .i64 0]) := by
    rw [← hw2, ← hH]
    exact (Blk.new w 25 #[.int .i64 0, .int .i64 0, .bool false, .int .i64 0, .int .i64 0, .int .i64 0]).alloc _
  have S2 : Hid (Blk w2 (H + 1) 28 #[.int .i64 0, .int .i64 0]) := by
    rw [← hw2, ← hH]
    have := Blk.new (w.alloc (.cells #[.int .i64 0, .int .i64 0, .bool false, .int .i64 0, .int .i64 0, .int .i64 0] 25)) 28 #[.int .i64 0, .int .i64 0]
    rw [Hid]
    simpa using this
  have Q2 : Hid (Below H w w2) := by
    rw [← hw2, ← hH]
    exact bal (bal (Below.refl _ _) _) _
  have X2 : Hid (Bs w2 (some ⟨b, off + p, none⟩) (t - p) (t - p) L) := by
    rw [← hw2]
    exact (XT.alloc _).alloc _
  obtain ⟨B, hB⟩ : ∃ B, H + 1 = B := ⟨_, rfl⟩
  rw [hB] at S2
  have hHB : H ≤ B := by omega
  have nHB : H ≠ B := by omega
  have nBH : B ≠ H := by omega
  have L2 := Lib.hid S2.out.lt
  have M2 := Lib.hid R2.out.lt
  have HX := Lib.hid (fun v (h : Bs v (some ⟨b, off + p, none⟩) (t - p) (t - p) L) => readHeader_any h)
  have k1 : (p : Int) ≤ t := by omega
  have k2 : (t : Int) ≤ c := by omega
  have k3 : ¬ t = p := by omega
  have k4 : (t : Int) ≤ n := by omega
  have k0 : (0 : Int) ≤ p := by omega
  have kz : (t : Int) ≤ 1000000 := by omega
  clear XT hLl hcm hcc
  go_enter Try.func32, Try.ntmps32
  go_wp2_with fail
  with_reducible refine (HX.out _ X2.out).mono ?_
  rintro e w3 ⟨rfl, q⟩
  have R3 := Lib.hid (R2.out.below q M2.out)
  have S3 := Lib.hid (S2.out.below q L2.out)
  have Q3 : Hid (Below H w w3) := Q2.out.trans (q.mono (by have := M2.out; omega))
  obtain ⟨G, hG⟩ : ∃ G, w3.heap.size = G := ⟨_, rfl⟩
  have lB : B < G := by rw [← hG]; exact S3.out.lt
  have lH : H < G := by omega
  clear q hw2 hB R2 S2 Q2 X2 HX L2 M2 hH
  obtain ⟨w4, hw4⟩ : ∃ w4, (w3.alloc (.cells #[.int .i64 (rdHead L).cls, .int .i64 (rdHead L).num, .bool (rdHead L).con, .int .i64 (rdHead L).len, .int .i64 (rdHead L).size] 56)).alloc (.cells #[.int .i64 (rdHead L).code, .int .i64 (rdHead L).off] 28) = w4 := ⟨_, rfl⟩
  obtain ⟨D, hD⟩ : ∃ D, G + 1 = D := ⟨_, rfl⟩
  have R4 : Hid (Blk w4 H 25 #[.int .i64 0, .int .i64 0, .bool false, .int .i64 0, .int .i64 0, .int .i64 0]) := by
    rw [← hw4]
    exact (R3.out.alloc _).alloc _
  have S4 : Hid (Blk w4 B 28 #[.int .i64 0, .int .i64 0]) := by
    rw [← hw4]
    exact (S3.out.alloc _).alloc _
  have Q4 : Hid (Below H w w4) := by
    rw [← hw4]
    exact (Q3.out.alloc (by omega) _).alloc (by simp; omega) _
  have H4 : Hid (Blk w4 G 56 #[.int .i64 (rdHead L).cls, .int .i64 (rdHead L).num, .bool (rdHead L).con, .int .i64 (rdHead L).len, .int .i64 (rdHead L).size]) := by
    rw [← hw4, ← hG]
    exact (Blk.new w3 56 #[.int .i64 (rdHead L).cls, .int .i64 (rdHead L).num, .bool (rdHead L).con, .int .i64 (rdHead L).len, .int .i64 (rdHead L).size]).alloc _
  have E4 : Hid (Blk w4 D 28 #[.int .i64 (rdHead L).code, .int .i64 (rdHead L).off]) := by
    rw [← hw4, ← hD, ← hG]
    have := Blk.new (w3.alloc (.cells #[.int .i64 (rdHead L).cls, .int .i64 (rdHead L).num, .bool (rdHead L).con, .int .i64 (rdHead L).len, .int .i64 (rdHead L).size] 56)) 28 #[.int .i64 (rdHead L).code, .int .i64 (rdHead L).off]
    rw [Hid]
    simpa using this
  have nHD : H ≠ D := by omega
  have nBD : B ≠ D := by omega
  have nHG : H ≠ G := by omega
  have nBG : B ≠ G := by omega
  have HW4 := Lib.hid hw4
  have HDD := Lib.hid hD
  have nGD : G ≠ D := by omega
  have M4 : Hid (w4.heap.size = D + 1) := by
    rw [← hw4, ← hD, ← hG, Hid]
    simp
  clear R3 S3 Q3 hw4 hD
  unfold hdV erV
  go_upto_region 2 with fail
  rw [HW4.out, HDD.out]
  clear HW4 HDD hG
  by_cases hc : (rdHead L).code = 0
  · have hs := rdHead_size hc
    by_cases hlen : L.length - (rdHead L).size < (rdHead L).len
    · have HO := Lib.hid (fst_short p hc hlen)
      generalize rdHead L = hh at *
      obtain ⟨cl, nu, co, le, si, C, O⟩ := hh
      dsimp only at hc hlen hs HO H4 E4
      subst hc
      dsimp only
      have hLl := HLL.out
      have v1 : IntKind.i64.wrap ((p : Int) + si) = (p : Int) + si := by rw [IntKind.wrap_i64]; omega
      have v2 : IntKind.i64.wrap ((t : Int) - ((p : Int) + si)) = (t : Int) - ((p : Int) + si) := by rw [IntKind.wrap_i64]; omega
      have g1 : (t : Int) - ((p : Int) + si) < le := by omega
      clear hs hlen hLl
      obtain ⟨r0, r1, r2, r3, r4, r5⟩ := R4.out.cellsE
      obtain ⟨s0, s1, sl, sf⟩ := S4.out.cells2
      obtain ⟨e0, e1, dl, df⟩ := E4.out.cells2
      have rl := R4.out.lt
      have rf := R4.out.frozen
      have h0 : w4.cell? ⟨G, 0, none⟩ = some _ := H4.out.cell 0
      have h1 : w4.cell? ⟨G, 1, none⟩ = some _ := H4.out.cell 1
      have h2 : w4.cell? ⟨G, 2, none⟩ = some _ := H4.out.cell 2
      have h3 : w4.cell? ⟨G, 3, none⟩ = some _ := H4.out.cell 3
      have h4 : w4.cell? ⟨G, 4, none⟩ = some _ := H4.out.cell 4
      go_wp2_with fail
      have RF := Lib.hid (res8 R4.out S4.out nHB nBH Q4.out (Nat.le_refl H) hHB (.int .i64 0) (.int .i64 0) (.bool false) (.int .i64 0) (.int .i64 0) (.int .i64 0) (.int .i64 1) (.int .i64 t))
      obtain ⟨K1, K2, K3⟩ := Hid.out RF
      obtain ⟨y0, y1, y2, y3, y4, y5⟩ := K1.cellsE
      obtain ⟨x0, x1, xl, xf⟩ := K2.cells2
      clear xl xf
      generalize ((((((((w4.setCell ⟨H, 0, none⟩ (.int .i64 0)).setCell ⟨H, 1, none⟩ (.int .i64 0)).setCell ⟨H, 2, none⟩ (.bool false)).setCell ⟨H, 3, none⟩ (.int .i64 0)).setCell ⟨H, 4, none⟩ (.int .i64 0)).setCell ⟨H, 5, none⟩ (.int .i64 0)).setCell ⟨B, 0, none⟩ (.int .i64 1)).setCell ⟨B, 1, none⟩ (.int .i64 t)) = w9 at *
      exact bodyPost_ret (v := .tuple #[.agg #[.int .i64 0, .int .i64 0, .bool false, .int .i64 0, .int .i64 0, .int .i64 0], .agg #[.int .i64 1, .int .i64 t]]) (by simp [results, Try.results32, go_sem, y0, y1, y2, y3, y4, y5, x0, x1]) rfl ⟨by rw [HO.out]; have := HLL.out; simp [el0, elV, erV]; omega, by first | exact K3 | exact below_drewN K3 1⟩
    · have HO := Lib.hid (fst_ok p hc hlen)
      generalize rdHead L = hh at *
      obtain ⟨cl, nu, co, le, si, C, O⟩ := hh
      dsimp only at hc hlen hs HO H4 E4
      subst hc
      dsimp only
      have hLl := HLL.out
      have v1 : IntKind.i64.wrap ((p : Int) + si) = (p : Int) + si := by rw [IntKind.wrap_i64]; omega
      have v2 : IntKind.i64.wrap ((t : Int) - ((p : Int) + si)) = (t : Int) - ((p : Int) + si) := by rw [IntKind.wrap_i64]; omega
      have v3 : IntKind.i64.wrap ((p : Int) + si + le) = (p : Int) + si + le := by rw [IntKind.wrap_i64]; omega
      have g1 : ¬ (t : Int) - ((p : Int) + si) < le := by omega
      clear hs hlen hLl
      obtain ⟨r0, r1, r2, r3, r4, r5⟩ := R4.out.cellsE
      obtain ⟨s0, s1, sl, sf⟩ := S4.out.cells2
      obtain ⟨e0, e1, dl, df⟩ := E4.out.cells2
      have rl := R4.out.lt
      have rf := R4.out.frozen
      have h0 : w4.cell? ⟨G, 0, none⟩ = some _ := H4.out.cell 0
      have h1 : w4.cell? ⟨G, 1, none⟩ = some _ := H4.out.cell 1
      have h2 : w4.cell? ⟨G, 2, none⟩ = some _ := H4.out.cell 2
      have h3 : w4.cell? ⟨G, 3, none⟩ = some _ := H4.out.cell 3
      have h4 : w4.cell? ⟨G, 4, none⟩ = some _ := H4.out.cell 4
      have m4 := M4.out
      go_upto_region 8 with fail
      have R5 := Lib.hid (R4.out.alloc (.cells #[.int .i64 cl, .int .i64 nu, .bool co, .int .i64 p, .int .i64 ((p : Int) + si), .int .i64 ((p : Int) + si + le)] 25))
      have S5 := Lib.hid (S4.out.alloc (.cells #[.int .i64 cl, .int .i64 nu, .bool co, .int .i64 p, .int .i64 ((p : Int) + si), .int .i64 ((p : Int) + si + le)] 25))
      have Q5 := Lib.hid (Q4.out.alloc (by omega) (.cells #[.int .i64 cl, .int .i64 nu, .bool co, .int .i64 p, .int .i64 ((p : Int) + si), .int .i64 ((p : Int) + si + le)] 25))
      have T5 := Lib.hid (Blk.new w4 25 #[.int .i64 cl, .int .i64 nu, .bool co, .int .i64 p, .int .i64 ((p : Int) + si), .int .i64 ((p : Int) + si + le)])
      have E5 := Lib.hid (E4.out.alloc (.cells #[.int .i64 cl, .int .i64 nu, .bool co, .int .i64 p, .int .i64 ((p : Int) + si), .int .i64 ((p : Int) + si + le)] 25))
      rw [m4] at T5
      clear r0 r1 r2 r3 r4 r5 s0 s1 sl sf e0 e1 dl df rl rf h0 h1 h2 h3 h4
      generalize w4.alloc (.cells #[.int .i64 cl, .int .i64 nu, .bool co, .int .i64 p, .int .i64 ((p : Int) + si), .int .i64 ((p : Int) + si + le)] 25) = w5 at *
      obtain ⟨r0, r1, r2, r3, r4, r5⟩ := R5.out.cellsE
      obtain ⟨s0, s1, sl, sf⟩ := S5.out.cells2
      obtain ⟨q0, q1, q2, q3, q4, q5⟩ := T5.out.cellsE
      have rl := R5.out.lt
      have rf := R5.out.frozen
      go_wp2_with fail
      have RF := Lib.hid (res8 R5.out S5.out nHB nBH Q5.out (Nat.le_refl H) hHB (.int .i64 cl) (.int .i64 nu) (.bool co) (.int .i64 p) (.int .i64 ((p : Int) + si)) (.int .i64 ((p : Int) + si + le)) (.int .i64 0) (.int .i64 0))
      obtain ⟨K1, K2, K3⟩ := Hid.out RF
      obtain ⟨y0, y1, y2, y3, y4, y5⟩ := K1.cellsE
      obtain ⟨x0, x1, xl, xf⟩ := K2.cells2
      clear xl xf
      generalize ((((((((w5.setCell ⟨H, 0, none⟩ (.int .i64 cl)).setCell ⟨H, 1, none⟩ (.int .i64 nu)).setCell ⟨H, 2, none⟩ (.bool co)).setCell ⟨H, 3, none⟩ (.int .i64 p)).setCell ⟨H, 4, none⟩ (.int .i64 ((p : Int) + si))).setCell ⟨H, 5, none⟩ (.int .i64 ((p : Int) + si + le))).setCell ⟨B, 0, none⟩ (.int .i64 0)).setCell ⟨B, 1, none⟩ (.int .i64 0)) = w9 at *
      exact bodyPost_ret (v := .tuple #[.agg #[.int .i64 cl, .int .i64 nu, .bool co, .int .i64 p, .int .i64 ((p : Int) + si), .int .i64 ((p : Int) + si + le)], .agg #[.int .i64 0, .int .i64 0]]) (by simp [results, Try.results32, go_sem, y0, y1, y2, y3, y4, y5, x0, x1]) rfl ⟨by rw [HO.out]; rfl, by first | exact K3 | exact below_drewN K3 1⟩
  · have HO := Lib.hid (fst_head p hc).1
    have hof := (fst_head p hc).2
    generalize rdHead L = hh at *
    obtain ⟨cl, nu, co, le, si, C, O⟩ := hh
    dsimp only at hc hof HO H4 E4
    dsimp only
    have hcb : ((C : Int) != 0) = true := by rw [bne_iff_ne]; omega
    have hLl := HLL.out
    have v1 : IntKind.i64.wrap ((p : Int) + O) = (p : Int) + O := by rw [IntKind.wrap_i64]; omega
    clear hof hLl
    obtain ⟨r0, r1, r2, r3, r4, r5⟩ := R4.out.cellsE
    obtain ⟨s0, s1, sl, sf⟩ := S4.out.cells2
    obtain ⟨e0, e1, dl, df⟩ := E4.out.cells2
    have rl := R4.out.lt
    have rf := R4.out.frozen
    have h0 : w4.cell? ⟨G, 0, none⟩ = some _ := H4.out.cell 0
    have h1 : w4.cell? ⟨G, 1, none⟩ = some _ := H4.out.cell 1
    have h2 : w4.cell? ⟨G, 2, none⟩ = some _ := H4.out.cell 2
    have h3 : w4.cell? ⟨G, 3, none⟩ = some _ := H4.out.cell 3
    have h4 : w4.cell? ⟨G, 4, none⟩ = some _ := H4.out.cell 4
    go_wp2_with fail
    go_region
    all_goals
      try go_wp2_with fail
      have RF := Lib.hid (res8 R4.out S4.out nHB nBH Q4.out (Nat.le_refl H) hHB (.int .i64 0) (.int .i64 0) (.bool false) (.int .i64 0) (.int .i64 0) (.int .i64 0) (.int .i64 C) (.int .i64 ((p : Int) + O)))
      have RG := Lib.hid (res8' R4.out S4.out nHB nBH Q4.out (Nat.le_refl H) hHB (.int .i64 0) (.int .i64 0) (.bool false) (.int .i64 0) (.int .i64 0) (.int .i64 0) (.int .i64 C) (.int .i64 ((p : Int) + O)))
      first
      | (obtain ⟨K1, K2, K3⟩ := Hid.out RF; obtain ⟨y0, y1, y2, y3, y4, y5⟩ := K1.cellsE; obtain ⟨x0, x1, xl, xf⟩ := K2.cells2; clear xl xf; generalize ((((((((w4.setCell ⟨H, 0, none⟩ (.int .i64 0)).setCell ⟨H, 1, none⟩ (.int .i64 0)).setCell ⟨H, 2, none⟩ (.bool false)).setCell ⟨H, 3, none⟩ (.int .i64 0)).setCell ⟨H, 4, none⟩ (.int .i64 0)).setCell ⟨H, 5, none⟩ (.int .i64 0)).setCell ⟨B, 0, none⟩ (.int .i64 C)).setCell ⟨B, 1, none⟩ (.int .i64 ((p : Int) + O))) = w9 at *; exact bodyPost_ret (v := .tuple #[.agg #[.int .i64 0, .int .i64 0, .bool false, .int .i64 0, .int .i64 0, .int .i64 0], .agg #[.int .i64 C, .int .i64 ((p : Int) + O)]]) (by simp [results, Try.results32, go_sem, y0, y1, y2, y3, y4, y5, x0, x1]) rfl ⟨by rw [HO.out]; simp [el0, elV, erV]; omega, by first | exact K3 | exact below_drewN K3 1⟩)
      | (obtain ⟨K1, K2, K3⟩ := Hid.out RG; obtain ⟨y0, y1, y2, y3, y4, y5⟩ := K1.cellsE; obtain ⟨x0, x1, xl, xf⟩ := K2.cells2; clear xl xf; generalize ((((((((w4.setCell ⟨B, 0, none⟩ (.int .i64 C)).setCell ⟨B, 1, none⟩ (.int .i64 ((p : Int) + O))).setCell ⟨H, 0, none⟩ (.int .i64 0)).setCell ⟨H, 1, none⟩ (.int .i64 0)).setCell ⟨H, 2, none⟩ (.bool false)).setCell ⟨H, 3, none⟩ (.int .i64 0)).setCell ⟨H, 4, none⟩ (.int .i64 0)).setCell ⟨H, 5, none⟩ (.int .i64 0)) = w9 at *; exact bodyPost_ret (v := .tuple #[.agg #[.int .i64 0, .int .i64 0, .bool false, .int .i64 0, .int .i64 0, .int .i64 0], .agg #[.int .i64 C, .int .i64 ((p : Int) + O)]]) (by simp [results, Try.results32, go_sem, y0, y1, y2, y3, y4, y5, x0, x1]) rfl ⟨by rw [HO.out]; simp [el0, elV, erV]; omega, by first | exact K3 | exact below_drewN K3 1⟩)
set_option maxRecDepth 100000 in
set_option maxHeartbeats 8000000 in
theorem first_none {w : World} {a : Option Addr} {c : Nat} {l : List UInt8} (hx : Bs w a 0 c l) :
    Calls Try.prog 32 #[.slice a 0 c, .int .i64 0, .int .i64 0] w fun e w' => e = .returned (.tuple #[elV (fstR [] 0).el, erV (fstR [] 0).code (fstR [] 0).off]) ∧ Below w.heap.size w w' := by
  have hl := hx.len
  have hl0 := List.eq_nil_of_length_eq_zero hl
  subst hl0
  have hcm : c ≤ 9223372036854775807 := by have := hx.2.2.1; unfold maxLen at this; omega
  have XT : Bs w none 0 0 [] := Bs.nil_ w
  have HO : Hid (fstR [] 0 = ⟨el0, 1, 0⟩) := rfl
  have HX := Lib.hid (fun v y (h : Bs v y 0 0 []) => readHeader_any h)
  have h0n : Hid (∀ v y, Bs v y 0 0 []) := fun v y => ⟨rfl, Nat.le_refl _, by simp [maxLen], fun h => absurd h (by omega)⟩
  obtain ⟨w2, hw2⟩ : ∃ w2, (w.alloc (.cells #[.int .i64 0, .int .i64 0, .bool false, .int .i64 0, .int .i64 0, .int .i64 0] 25)).alloc (.cells #[.int .i64 0, .int .i64 0] 28) = w2 := ⟨_, rfl⟩
  obtain ⟨H, hH⟩ : ∃ H, w.heap.size = H := ⟨_, rfl⟩
  rw [hH]
  have R2 : Hid (Blk w2 H 25 #[.int .i64 0, .int .i64 0, .bool false, .int .i64 0, .int .i64 0, .int .i64 0]) := by
    rw [← hw2, ← hH]
    exact (Blk.new w 25 #[.int .i64 0, .int .i64 0, .bool false, .int .i64 0, .int .i64 0, .int .i64 0]).alloc _
  have S2 : Hid (Blk w2 (H + 1) 28 #[.int .i64 0, .int .i64 0]) := by
    rw [← hw2, ← hH]
    have := Blk.new (w.alloc (.cells #[.int .i64 0, .int .i64 0, .bool false, .int .i64 0, .int .i64 0, .int .i64 0] 25)) 28 #[.int .i64 0, .int .i64 0]
    rw [Hid]
    simpa using this
  have Q2 : Hid (Below H w w2) := by
    rw [← hw2, ← hH]
    exact bal (bal (Below.refl _ _) _) _
  obtain ⟨B, hB⟩ : ∃ B, H + 1 = B := ⟨_, rfl⟩
  rw [hB] at S2
  have hHB : H ≤ B := by omega
  have nHB : H ≠ B := by omega
  have nBH : B ≠ H := by omega
  have L2 := Lib.hid S2.out.lt
  have M2 := Lib.hid R2.out.lt
  clear hx hcm XT hl
  go_enter Try.func32, Try.ntmps32
  rcases a with _ | ⟨b, off, wn⟩
  all_goals
    go_wp2_with fail
    with_reducible refine (HX.out _ _ (h0n.out _ _)).mono ?_
    rintro e w3 ⟨rfl, q⟩
    have R3 := Lib.hid (R2.out.below q M2.out)
    have S3 := Lib.hid (S2.out.below q L2.out)
    have Q3 : Hid (Below H w w3) := Q2.out.trans (q.mono (by have := M2.out; omega))
    obtain ⟨G, hG⟩ : ∃ G, w3.heap.size = G := ⟨_, rfl⟩
    have lB : B < G := by rw [← hG]; exact S3.out.lt
    have lH : H < G := by omega
    clear q hw2 hB R2 S2 Q2 HX L2 M2 hH
    obtain ⟨w4, hw4⟩ : ∃ w4, (w3.alloc (.cells #[.int .i64 0, .int .i64 0, .bool false, .int .i64 0, .int .i64 0] 56)).alloc (.cells #[.int .i64 1, .int .i64 0] 28) = w4 := ⟨_, rfl⟩
    obtain ⟨D, hD⟩ : ∃ D, G + 1 = D := ⟨_, rfl⟩
    have R4 : Hid (Blk w4 H 25 #[.int .i64 0, .int .i64 0, .bool false, .int .i64 0, .int .i64 0, .int .i64 0]) := by
      rw [← hw4]
      exact (R3.out.alloc _).alloc _
    have S4 : Hid (Blk w4 B 28 #[.int .i64 0, .int .i64 0]) := by
      rw [← hw4]
      exact (S3.out.alloc _).alloc _
    have Q4 : Hid (Below H w w4) := by
      rw [← hw4]
      exact (Q3.out.alloc (by omega) _).alloc (by simp; omega) _
    have H4 : Hid (Blk w4 G 56 #[.int .i64 0, .int .i64 0, .bool false, .int .i64 0, .int .i64 0]) := by
      rw [← hw4, ← hG]
      exact (Blk.new w3 56 #[.int .i64 0, .int .i64 0, .bool false, .int .i64 0, .int .i64 0]).alloc _
    have E4 : Hid (Blk w4 D 28 #[.int .i64 1, .int .i64 0]) := by
      rw [← hw4, ← hD, ← hG]
      have := Blk.new (w3.alloc (.cells #[.int .i64 0, .int .i64 0, .bool false, .int .i64 0, .int .i64 0] 56)) 28 #[.int .i64 1, .int .i64 0]
      rw [Hid]
      simpa using this
    have nHD : H ≠ D := by omega
    have nBD : B ≠ D := by omega
    have nHG : H ≠ G := by omega
    have nBG : B ≠ G := by omega
    have HW4 := Lib.hid hw4
    have HDD := Lib.hid hD
    have nGD : G ≠ D := by omega
    have M4 : Hid (w4.heap.size = D + 1) := by
      rw [← hw4, ← hD, ← hG, Hid]
      simp
    clear R3 S3 Q3 hw4 hD
    have hrd : rdHead [] = ⟨0, 0, false, 0, 0, 1, 0⟩ := rfl
    rw [hrd]
    dsimp only
    unfold hdV erV
    clear hrd
    go_upto_region 2 with fail
    rw [HW4.out, HDD.out]
    clear HW4 HDD hG
    obtain ⟨r0, r1, r2, r3, r4, r5⟩ := R4.out.cellsE
    obtain ⟨s0, s1, sl, sf⟩ := S4.out.cells2
    obtain ⟨e0, e1, dl, df⟩ := E4.out.cells2
    have rl := R4.out.lt
    have rf := R4.out.frozen
    have h0 : w4.cell? ⟨G, 0, none⟩ = some _ := H4.out.cell 0
    have h1 : w4.cell? ⟨G, 1, none⟩ = some _ := H4.out.cell 1
    have h2 : w4.cell? ⟨G, 2, none⟩ = some _ := H4.out.cell 2
    have h3 : w4.cell? ⟨G, 3, none⟩ = some _ := H4.out.cell 3
    have h4 : w4.cell? ⟨G, 4, none⟩ = some _ := H4.out.cell 4
    go_wp2_with fail
    go_region
    all_goals
      try go_wp2_with fail
      have RF := Lib.hid (res8 R4.out S4.out nHB nBH Q4.out (Nat.le_refl H) hHB (.int .i64 0) (.int .i64 0) (.bool false) (.int .i64 0) (.int .i64 0) (.int .i64 0) (.int .i64 1) (.int .i64 0))
      have RG := Lib.hid (res8' R4.out S4.out nHB nBH Q4.out (Nat.le_refl H) hHB (.int .i64 0) (.int .i64 0) (.bool false) (.int .i64 0) (.int .i64 0) (.int .i64 0) (.int .i64 1) (.int .i64 0))
      first
      | (obtain ⟨K1, K2, K3⟩ := Hid.out RF; obtain ⟨y0, y1, y2, y3, y4, y5⟩ := K1.cellsE; obtain ⟨x0, x1, xl, xf⟩ := K2.cells2; clear xl xf; generalize ((((((((w4.setCell ⟨H, 0, none⟩ (.int .i64 0)).setCell ⟨H, 1, none⟩ (.int .i64 0)).setCell ⟨H, 2, none⟩ (.bool false)).setCell ⟨H, 3, none⟩ (.int .i64 0)).setCell ⟨H, 4, none⟩ (.int .i64 0)).setCell ⟨H, 5, none⟩ (.int .i64 0)).setCell ⟨B, 0, none⟩ (.int .i64 1)).setCell ⟨B, 1, none⟩ (.int .i64 0)) = w9 at *; exact bodyPost_ret (v := .tuple #[.agg #[.int .i64 0, .int .i64 0, .bool false, .int .i64 0, .int .i64 0, .int .i64 0], .agg #[.int .i64 1, .int .i64 0]]) (by simp [results, Try.results32, go_sem, y0, y1, y2, y3, y4, y5, x0, x1]) rfl ⟨by rw [HO.out]; rfl, by first | exact K3 | exact below_drewN K3 1⟩)
      | (obtain ⟨K1, K2, K3⟩ := Hid.out RG; obtain ⟨y0, y1, y2, y3, y4, y5⟩ := K1.cellsE; obtain ⟨x0, x1, xl, xf⟩ := K2.cells2; clear xl xf; generalize ((((((((w4.setCell ⟨B, 0, none⟩ (.int .i64 1)).setCell ⟨B, 1, none⟩ (.int .i64 0)).setCell ⟨H, 0, none⟩ (.int .i64 0)).setCell ⟨H, 1, none⟩ (.int .i64 0)).setCell ⟨H, 2, none⟩ (.bool false)).setCell ⟨H, 3, none⟩ (.int .i64 0)).setCell ⟨H, 4, none⟩ (.int .i64 0)).setCell ⟨H, 5, none⟩ (.int .i64 0)) = w9 at *; exact bodyPost_ret (v := .tuple #[.agg #[.int .i64 0, .int .i64 0, .bool false, .int .i64 0, .int .i64 0, .int .i64 0], .agg #[.int .i64 1, .int .i64 0]]) (by simp [results, Try.results32, go_sem, y0, y1, y2, y3, y4, y5, x0, x1]) rfl ⟨by rw [HO.out]; rfl, by first | exact K3 | exact below_drewN K3 1⟩)
end Go.Proofs.Ytkkomaohcijhnaa
namespace Go.Proofs.Ytkkomaohcijhnaa
open Go.RowKit
theorem fst_step (acc : List El) {L : List UInt8} (p : Nat) (hl : L.length ≠ 0) (hc : (fstR L p).code = 0) :
    ∃ e : Nat, (fstR L p).el.en = ((p + e : Nat) : Int) ∧ 1 ≤ e ∧ e ≤ L.length ∧ addE acc (rdEls L p) = addE (acc ++ [(fstR L p).el]) (rdEls (L.drop e) (p + e)) := by
  have h : (rdNext L).h.code = 0 := by
    unfold fstR at hc
    split at hc
    · rename_i h; exact h
    · exact hc
  have e : fstR L p = ⟨elOf (rdNext L).h p, 0, 0⟩ := by unfold fstR; rw [if_pos h]
  have hb := elN_bd h
  have hed : elN L = (rdNext L).h.size + (rdNext L).h.len := rfl
  refine ⟨elN L, ?_, by omega, by omega, ?_⟩
  · rw [e]
    show (p : Int) + (rdNext L).h.size + (rdNext L).h.len = _
    omega
  · rw [e]
    exact addE_step acc p hl h
theorem fst_stop (acc : List El) {L : List UInt8} (p : Nat) (hl : L.length ≠ 0) (hc : (fstR L p).code ≠ 0) : addE acc (rdEls L p) = ⟨[], (fstR L p).code, (fstR L p).off⟩ := by
  have h : (rdNext L).h.code ≠ 0 := by
    intro h
    apply hc
    unfold fstR
    rw [if_pos h]
  unfold fstR
  rw [if_neg h]
  exact addE_err acc p hl h
set_option maxRecDepth 100000 in
set_option maxHeartbeats 4000000 in
theorem list_bad {w : World} {a : Option Addr} {n c : Nat} {l : List UInt8} (hx : Bs w a n c l) (f t : Int) (hb : f < 0 ∨ t < f ∨ (n : Int) < t) :
    Calls Try.prog 14 #[.slice a n c, .int .i64 f, .int .i64 t] w fun e w' => e = .returned (.tuple #[.slice none 0 0, .agg #[.int .i64 9, .int .i64 0]]) ∧ Below w.heap.size w w' := by
  have hn : n ≤ 9223372036854775807 := by have := hx.2.1; have := hx.2.2.1; unfold maxLen at this; omega
  obtain ⟨w2, hw2⟩ : ∃ w2, w.alloc (.cells #[.int .i64 0, .int .i64 0] 28) = w2 := ⟨_, rfl⟩
  obtain ⟨H, hH⟩ : ∃ H, w.heap.size = H := ⟨_, rfl⟩
  rw [hH]
  have S2 : Hid (Blk w2 H 28 #[.int .i64 0, .int .i64 0]) := by
    rw [← hw2, ← hH]
    exact Blk.new w 28 #[.int .i64 0, .int .i64 0]
  have Q2 : Hid (Below H w w2) := by
    rw [← hw2, ← hH]
    exact bal (Below.refl _ _) _
  have K := Lib.hid (S2.out.two (.int .i64 9) (.int .i64 0))
  have QF := Lib.hid (belowS (belowS Q2.out (Nat.le_refl H) 0 (.int .i64 9)) (Nat.le_refl H) 1 (.int .i64 0))
  obtain ⟨s0, s1, sl, sf⟩ := S2.out.cells2
  clear hx
  rcases h1 : decide (f < 0) with _ | _
  · have g1 := of_decide_eq_false h1
    rcases h2 : decide (t < f) with _ | _
    · have g2 := of_decide_eq_false h2
      have h3 : decide ((n : Int) < t) = true := decide_eq_true (by omega)
      have g3 := of_decide_eq_true h3
      clear hb
      go_enter Try.func14, Try.ntmps14
      go_wp2_with fail
      obtain ⟨x0, x1, xl, xf⟩ := K.out.cells2
      have q := QF.out
      clear xl xf
      generalize (w2.setCell ⟨H, 0, none⟩ (.int .i64 9)).setCell ⟨H, 1, none⟩ (.int .i64 0) = w9 at *
      exact bodyPost_ret (v := .tuple #[.slice none 0 0, .agg #[.int .i64 9, .int .i64 0]]) (by simp [results, Try.results14, go_sem, x0, x1]) rfl ⟨rfl, q⟩
    · have g2 := of_decide_eq_true h2
      clear hb
      go_enter Try.func14, Try.ntmps14
      go_wp2_with fail
      obtain ⟨x0, x1, xl, xf⟩ := K.out.cells2
      have q := QF.out
      clear xl xf
      generalize (w2.setCell ⟨H, 0, none⟩ (.int .i64 9)).setCell ⟨H, 1, none⟩ (.int .i64 0) = w9 at *
      exact bodyPost_ret (v := .tuple #[.slice none 0 0, .agg #[.int .i64 9, .int .i64 0]]) (by simp [results, Try.results14, go_sem, x0, x1]) rfl ⟨rfl, q⟩
  · have g1 := of_decide_eq_true h1
    clear hb
    go_enter Try.func14, Try.ntmps14
    go_wp2_with fail
    obtain ⟨x0, x1, xl, xf⟩ := K.out.cells2
    have q := QF.out
    clear xl xf
    generalize (w2.setCell ⟨H, 0, none⟩ (.int .i64 9)).setCell ⟨H, 1, none⟩ (.int .i64 0) = w9 at *
    exact bodyPost_ret (v := .tuple #[.slice none 0 0, .agg #[.int .i64 9, .int .i64 0]]) (by simp [results, Try.results14, go_sem, x0, x1]) rfl ⟨rfl, q⟩
set_option maxRecDepth 100000 in
set_option maxHeartbeats 16000000 in
theorem list_ok {w : World} {a : Option Addr} {n c : Nat} {l : List UInt8} (hx : Bs w a n c l) (hz : n ≤ 1000000) (f t : Nat) (hft : f ≤ t) (htn : t ≤ n) :
    Calls Try.prog 14 #[.slice a n c, .int .i64 f, .int .i64 t] w fun e w' => ∃ a' c', e = .returned (.tuple #[.slice a' (rdEls ((l.take t).drop f) f).els.length c', erV (rdEls ((l.take t).drop f) f).code (rdEls ((l.take t).drop f) f).off]) ∧ OwnE w' w.heap.size 25 a' (rdEls ((l.take t).drop f) f).els.length c' (rdEls ((l.take t).drop f) f).els ∧ Below w.heap.size w w' := by
  obtain ⟨i0, hi, hz0, hz1, hz2⟩ := info_partsE info_el
  have HBB : Hid (∀ b off, a = some ⟨b, off, none⟩ → 0 < n → b < w.heap.size + 1) := fun b off e hn => by
    obtain ⟨b', off', e', hb, _⟩ := hx.2.2.2 hn
    rw [e] at e'
    injection e' with e'
    injection e' with e'
    omega
  have HLN := Lib.hid hx.len
  have hcm : c ≤ 9223372036854775807 := by have := hx.2.2.1; unfold maxLen at this; omega
  have hnc := hx.2.1
  obtain ⟨R, hR⟩ : ∃ R, rdEls ((l.take t).drop f) f = R := ⟨_, rfl⟩
  have HR := Lib.hid hR
  have HRR := Lib.hid hR
  clear hR
  obtain ⟨w2, hw2⟩ : ∃ w2, w.alloc (.cells #[.int .i64 0, .int .i64 0] 28) = w2 := ⟨_, rfl⟩
  obtain ⟨H, hH⟩ : ∃ H, w.heap.size = H := ⟨_, rfl⟩
  rw [hH] at HBB
  rw [hH]
  have S2 : Hid (Blk w2 H 28 #[.int .i64 0, .int .i64 0]) := by
    rw [← hw2, ← hH]
    exact Blk.new w 28 #[.int .i64 0, .int .i64 0]
  have Q2 : Hid (Below H w w2) := by
    rw [← hw2, ← hH]
    exact bal (Below.refl _ _) _
  have X2 : Hid (Bs w2 a n c l) := by
    rw [← hw2]
    exact hx.alloc _
  have Z2s : Hid (H + 1 ≤ w2.heap.size) := by
    rw [← hw2, ← hH, Hid]
    simp
  have c1 : ¬ (f : Int) < 0 := by omega
  have c2 : ¬ (t : Int) < f := by omega
  have c3 : ¬ (n : Int) < t := by omega
  clear hx
  go_enter Try.func14, Try.ntmps14
  go_wp2_with fail
  clear hw2 hH
  go_loopw [8, 9] (fun o at_ wr => ∃ ao co, ∃ acc : List El, ∃ p : Nat, f ≤ p ∧ p ≤ t ∧ at_ = .int .i64 p ∧ o = .slice ao acc.length co ∧ OwnE wr (H + 1) 25 ao acc.length co acc ∧ acc.length ≤ p ∧ addE acc (rdEls ((l.take t).drop p) p) = R ∧ Blk wr H 28 #[.int .i64 0, .int .i64 0] ∧ Bs wr a n c l ∧ Below H w wr ∧ H + 1 ≤ wr.heap.size) (fun _ p _ => t - (intOf p).toNat)
  case atStart => exact ⟨none, 0, [], f, Nat.le_refl _, hft, rfl, rfl, OwnE.nil_ _ _ _, Nat.zero_le _, by rw [addE_nil]; exact HR.out, S2.out, X2.out, Q2.out, Z2s.out⟩
  case round =>
    obtain ⟨ao, co, acc, p, p1, p2, rfl, rfl, ho, hacc, hadd, hs, hbs, hq, hsz⟩ := hrel
    have O4 := Lib.hid ho
    have S4 := Lib.hid hs
    have X4 := Lib.hid hbs
    have Q4 := Lib.hid hq
    have AD := Lib.hid hadd
    have SZ := Lib.hid hsz
    clear ho hs hbs hq hadd hsz S2 Q2 X2 Z2s c1 c2 c3 HR
    have hp0 : (0 : Int) ≤ p := by omega
    by_cases hlt : p < t
    · have hlt2 : (p : Int) < t := by omega
      obtain ⟨b, off, _, rfl, hbl, _⟩ := X4.out.at_ (i := p) (by omega)
      obtain ⟨L, hL⟩ : ∃ L, (l.take t).drop p = L := ⟨_, rfl⟩
      have hL2 : (l.drop p).take (t - p) = L := by rw [← hL, List.drop_take]
      have XS := Lib.hid (bs_mid X4.out (i := p) (m := t - p) (by omega) (by omega))
      rw [hL2] at XS
      have hLl : L.length = t - p := XS.out.len
      have HLD := Lib.hid hL
      have ADL := AD.out
      rw [hL] at ADL
      have ADH := Lib.hid ADL
      have HN := Lib.hid (fun v (h : Bs v (some ⟨b, off, none⟩) n c l) => first_some h hz p t hlt htn)
      rw [hL] at HN
      clear hL hL2 ADL AD XS
      go_wp2_with fail
      with_reducible refine (HN.out _ X4.out).mono ?_
      rintro e w5 ⟨rfl, q⟩
      have O5 := Lib.hid (O4.out.below q)
      have S5 := Lib.hid (S4.out.below q S4.out.lt)
      have X5 := Lib.hid (X4.out.below q)
      have hbB : Hid (b < H + 1) := HBB.out b off rfl (by omega)
      have Q5 : Hid (Below H w w5) := Q4.out.trans (q.mono (by have := SZ.out; omega))
      have SZ5 : Hid (H + 1 ≤ w5.heap.size) := by have := SZ.out; have := q.size; rw [Hid]; omega
      clear q O4 S4 X4 Q4 SZ HN hbl
      have FS := Lib.hid (fst_step acc p (show L.length ≠ 0 by omega))
      have FT := Lib.hid (fst_stop acc p (show L.length ≠ 0 by omega))
      generalize fstR L p = fr at *
      obtain ⟨⟨cl, nu, co', st, bo, ex⟩, C, O⟩ := fr
      dsimp only at FS FT
      obtain ⟨G, hG⟩ : ∃ G, w5.heap.size = G := ⟨_, rfl⟩
      obtain ⟨D, hD⟩ : ∃ D, G + 1 = D := ⟨_, rfl⟩
      have lH : H < G := by have := SZ5.out; omega
      obtain ⟨w6, hw6⟩ : ∃ w6, (w5.alloc (.cells #[.int .i64 cl, .int .i64 nu, .bool co', .int .i64 st, .int .i64 bo, .int .i64 ex] 25)).alloc (.cells #[.int .i64 C, .int .i64 O] 28) = w6 := ⟨_, rfl⟩
      have B6 : Hid (Below w5.heap.size w5 w6) := by
        rw [← hw6]
        exact bal (bal (Below.refl _ _) _) _
      have S6 := Lib.hid (S5.out.below B6.out S5.out.lt)
      have O6 := Lib.hid (O5.out.below B6.out)
      have X6 := Lib.hid (X5.out.below B6.out)
      have Q6 : Hid (Below H w w6) := Q5.out.trans (B6.out.mono (by have := SZ5.out; omega))
      have H6 : Hid (Blk w6 G 25 #[.int .i64 cl, .int .i64 nu, .bool co', .int .i64 st, .int .i64 bo, .int .i64 ex]) := by
        rw [← hw6, ← hG]
        exact (Blk.new w5 25 #[.int .i64 cl, .int .i64 nu, .bool co', .int .i64 st, .int .i64 bo, .int .i64 ex]).alloc _
      have E6 : Hid (Blk w6 D 28 #[.int .i64 C, .int .i64 O]) := by
        rw [← hw6, ← hD, ← hG]
        have := Blk.new (w5.alloc (.cells #[.int .i64 cl, .int .i64 nu, .bool co', .int .i64 st, .int .i64 bo, .int .i64 ex] 25)) 28 #[.int .i64 C, .int .i64 O]
        rw [Hid]
        simpa using this
      have SZ6 : Hid (D + 1 = w6.heap.size) := by
        rw [← hw6, ← hD, ← hG, Hid]
        simp
      have HW6 := Lib.hid hw6
      have HDD := Lib.hid hD
      have oB := Lib.hid (fun x hx => (O5.out.base x hx).2)
      rw [hG] at oB
      have nHD : H ≠ D := by omega
      have lHD : H < D := by omega
      have lGD : G < D := by omega
      have nHG : H ≠ G := by omega
      clear hw6 hD O5 S5 X5 Q5 SZ5 B6
      unfold elV erV
      dsimp only
      go_upto_region 7 with fail
      rw [HW6.out, HDD.out]
      clear HW6 HDD hG
      by_cases hc : C = 0
      · subst hc
        obtain ⟨en, hen, hen1, hen2, hst⟩ := FS.out rfl
        rw [ADH.out, ← HLD.out, drop_more] at hst
        have HST := Lib.hid hst
        have hpn : p + en ≤ t := by omega
        have HEN := Lib.hid hen
        clear hst ADH FS FT hen hen2
        obtain ⟨e0, e1, dl, df⟩ := E6.out.cells2
        obtain ⟨q0, q1, q2, q3, q4, q5⟩ := H6.out.cellsE
        clear df
        obtain ⟨M, hM⟩ : ∃ M, w6.heap.size = M := ⟨_, rfl⟩
        have lM : D < M := by have := SZ6.out; omega
        rw [hM] at dl
        have X8 := Lib.hid (X6.out.alloc (.cells #[.int .i64 cl, .int .i64 nu, .bool co', .int .i64 st, .int .i64 bo, .int .i64 ex] 25))
        have S8 := Lib.hid (S6.out.alloc (.cells #[.int .i64 cl, .int .i64 nu, .bool co', .int .i64 st, .int .i64 bo, .int .i64 ex] 25))
        have O8 := Lib.hid (O6.out.below (bal (Below.refl _ w6) (.cells #[.int .i64 cl, .int .i64 nu, .bool co', .int .i64 st, .int .i64 bo, .int .i64 ex] 25)))
        have T8 := Lib.hid (H6.out.alloc (.cells #[.int .i64 cl, .int .i64 nu, .bool co', .int .i64 st, .int .i64 bo, .int .i64 ex] 25))
        have Q8 := Lib.hid (Q6.out.alloc (by omega) (.cells #[.int .i64 cl, .int .i64 nu, .bool co', .int .i64 st, .int .i64 bo, .int .i64 ex] 25))
        have NB := Lib.hid (Blk.new w6 25 #[.int .i64 cl, .int .i64 nu, .bool co', .int .i64 st, .int .i64 bo, .int .i64 ex])
        rw [hM] at NB
        have SZ8 : H + 1 ≤ (w6.alloc (.cells #[.int .i64 cl, .int .i64 nu, .bool co', .int .i64 st, .int .i64 bo, .int .i64 ex] 25)).heap.size := by simp; omega
        have BA := Lib.hid (fun x hx => (O8.out.base x hx).1)
        go_wp2_with (at_builtin; go_must (refine wpList_append_lies _ rfl _ _ 33 rfl (H + 1) 25 i0 zeroE 6 48 Try.underlying33 hi hz0 hz1 hz2 rfl (by decide) (.slice ao acc.length co) acc.length (cellsE acc) rfl O8.out.2 ⟨_, 0, none⟩ 1 1 [.int .i64 cl, .int .i64 nu, .bool co', .int .i64 st, .int .i64 bo, .int .i64 ex] rfl rfl (World.news_of_block NB.out) (by simp [Value.oneCell']) (by decide) (by unfold maxLen; omega) (by omega) SZ8 _ rfl ?_))
        intro g cap w9 hown9 hg9 hat hlt9
        have D9 : Hid (Below (H + 1) _ w9) := row_belowE hg9 BA.out SZ8
        have T9 := Lib.hid (blk_other T8.out hg9 (fun y hy => by have := oB.out y hy; omega))
        have S9 := Lib.hid (S8.out.below D9.out (by omega))
        have Q9 : Hid (Below H w w9) := Q8.out.trans (D9.out.mono (by omega))
        have X9 : Hid (Bs w9 (some ⟨b, off, none⟩) n c l) := bs_belowB X8.out D9.out (fun x hx => by injection hx with hx; subst hx; exact hbB.out)
        have O9 : Hid (OwnE w9 (H + 1) 25 (some ⟨g, 0, none⟩) (acc.length + 1) cap (acc ++ [⟨cl, nu, co', st, bo, ex⟩])) := by
          refine ⟨by simp, ?_⟩
          rw [cellsE_snoc]
          exact hown9
        have hs9 : H + 1 ≤ w9.heap.size := by have := D9.out.size; omega
        clear hown9 hg9 hat D9 O8 NB Q8 BA X8 S8 T8 q0 q1 q2 q3 q4 q5
        obtain ⟨q0, q1, q2, q3, q4, q5⟩ := T9.out.cellsE
        go_wp2_with fail
        refine ⟨⟨some ⟨g, 0, none⟩, cap, acc ++ [⟨cl, nu, co', st, bo, ex⟩], p + en, by omega, hpn, by rw [HEN.out], by simp, ?_, by simp; omega, HST.out.symm, S9.out, X9.out, Q9.out, hs9⟩, by have := HEN.out; simp [intOf]; omega⟩
        rw [List.length_append]
        exact O9.out
      · have her := FT.out hc
        rw [ADH.out] at her
        have HER := Lib.hid her
        clear her ADH FS FT
        have hcb : ((C : Int) != 0) = true := by rw [bne_iff_ne]; omega
        obtain ⟨e0, e1, dl, df⟩ := E6.out.cells2
        obtain ⟨s0, s1, sl, sf⟩ := S6.out.cells2
        have K := Lib.hid (S6.out.two (.int .i64 C) (.int .i64 O))
        have QF := Lib.hid (belowS (belowS Q6.out (Nat.le_refl H) 0 (.int .i64 C)) (Nat.le_refl H) 1 (.int .i64 O))
        clear dl df
        go_wp2_with fail
        go_region
        all_goals
          try go_wp2_with fail
          obtain ⟨x0, x1, xl, xf⟩ := K.out.cells2
          have q := QF.out
          clear xl xf
          generalize (w6.setCell ⟨H, 0, none⟩ (.int .i64 C)).setCell ⟨H, 1, none⟩ (.int .i64 O) = w9 at *
          exact bodyPost_ret (v := .tuple #[.slice none 0 0, .agg #[.int .i64 C, .int .i64 O]]) (by simp [results, Try.results14, go_sem, x0, x1]) rfl ⟨none, 0, by rw [HRR.out, HER.out]; simp [erV], by rw [HRR.out, HER.out]; exact OwnE.nil_ _ _ _, by first | exact q | exact below_drewN q 1⟩
    · obtain rfl : p = t := by omega
      have hlt2 : ¬ (p : Int) < p := by omega
      have hnil : (l.take p).drop p = [] := List.drop_of_length_le (by rw [List.length_take]; omega)
      have AE := AD.out
      rw [hnil, addE_end] at AE
      have AE2 := Lib.hid AE
      clear AE hnil AD
      obtain ⟨s0, s1, sl, sf⟩ := S4.out.cells2
      have K := Lib.hid (S4.out.two (.int .i64 0) (.int .i64 0))
      have QF := Lib.hid (belowS (belowS Q4.out (Nat.le_refl H) 0 (.int .i64 0)) (Nat.le_refl H) 1 (.int .i64 0))
      have OF := Lib.hid ((O4.out.keep (w' := (wr.setCell ⟨H, 0, none⟩ (.int .i64 0)).setCell ⟨H, 1, none⟩ (.int .i64 0)) fun x hx => by
        have hb := (O4.out.base x hx).1
        rw [Below.heap_setCell _ ⟨H, 1, none⟩ _ _ (show x.block ≠ H by omega), Below.heap_setCell _ ⟨H, 0, none⟩ _ _ (show x.block ≠ H by omega)]))
      go_wp2_with fail
      obtain ⟨x0, x1, xl, xf⟩ := K.out.cells2
      have q := QF.out
      have o9 := OF.out
      clear xl xf
      generalize (wr.setCell ⟨H, 0, none⟩ (.int .i64 0)).setCell ⟨H, 1, none⟩ (.int .i64 0) = w9 at *
      exact bodyPost_ret (v := .tuple #[.slice ao acc.length co, .agg #[.int .i64 0, .int .i64 0]]) (by simp [results, Try.results14, go_sem, x0, x1]) rfl ⟨ao, co, by rw [HRR.out, ← AE2.out]; rfl, by rw [HRR.out, ← AE2.out]; exact ownE_more o9 (by omega), q⟩
end Go.Proofs.Ytkkomaohcijhnaa
namespace Go.Proofs.Ytkkomaohcijhnaa
open Go.RowKit
theorem one_fst_more {l : List UInt8} (h : (fstR l 0).code = 0) (h2 : (fstR l 0).el.en < l.length) : oneR l = ⟨el0, 2, (fstR l 0).el.en.toNat⟩ ∧ 0 ≤ (fstR l 0).el.en := by
  by_cases hc : (rdNext l).h.code = 0
  · have e : fstR l 0 = ⟨elOf (rdNext l).h 0, 0, 0⟩ := by unfold fstR; rw [if_pos hc]
    have hr := rest_len hc
    have hb := elN_bd hc
    have hed : elN l = (rdNext l).h.size + (rdNext l).h.len := rfl
    have hen : (fstR l 0).el.en = (elN l : Nat) := by rw [e]; show ((0 : Nat) : Int) + (rdNext l).h.size + (rdNext l).h.len = _; rw [hed]; omega
    rw [hen] at h2 ⊢
    exact ⟨by rw [one_more hc (by omega)]; rfl, by omega⟩
  · exfalso
    unfold fstR at h
    rw [if_neg hc] at h
    exact hc h
theorem one_fst_same {l : List UInt8} (h : ¬ ((fstR l 0).code = 0 ∧ (fstR l 0).el.en < l.length)) : oneR l = fstR l 0 := by
  by_cases hc : (rdNext l).h.code = 0
  · have e : fstR l 0 = ⟨elOf (rdNext l).h 0, 0, 0⟩ := by unfold fstR; rw [if_pos hc]
    have hr := rest_len hc
    have hb := elN_bd hc
    have hed : elN l = (rdNext l).h.size + (rdNext l).h.len := rfl
    have hen : (fstR l 0).el.en = (elN l : Nat) := by rw [e]; show ((0 : Nat) : Int) + (rdNext l).h.size + (rdNext l).h.len = _; rw [hed]; omega
    have h2 : ¬ (fstR l 0).el.en < l.length := fun h2 => h ⟨by rw [e], h2⟩
    rw [hen] at h2
    rw [one_all hc (by omega), e]
  · unfold fstR
    rw [if_neg hc, one_err hc]
    rfl
theorem first_all {w : World} {a : Option Addr} {n c : Nat} {l : List UInt8} (hx : Bs w a n c l) (hz : n ≤ 1000000) :
    Calls Try.prog 32 #[.slice a n c, .int .i64 0, .int .i64 n] w fun e w' => e = .returned (.tuple #[elV (fstR l 0).el, erV (fstR l 0).code (fstR l 0).off]) ∧ Below w.heap.size w w' := by
  by_cases h0 : n = 0
  · subst h0
    have hl := List.eq_nil_of_length_eq_zero hx.len
    subst hl
    exact first_none hx
  · obtain ⟨b, off, _, rfl, _, _⟩ := hx.at_ (i := 0) (by omega)
    have h := first_some hx hz 0 n (by omega) (Nat.le_refl _)
    rw [List.drop_zero, List.take_of_length_le (by rw [hx.len]; exact Nat.le_refl _)] at h
    exact h
set_option maxRecDepth 100000 in
set_option maxHeartbeats 8000000 in
theorem one_any {w : World} {a : Option Addr} {n c : Nat} {l : List UInt8} (hx : Bs w a n c l) (hz : n ≤ 1000000) :
    Calls Try.prog 11 #[.slice a n c] w fun e w' => e = .returned (.tuple #[elV (oneR l).el, erV (oneR l).code (oneR l).off]) ∧ Below w.heap.size w w' := by
  have HX := Lib.hid (fun v (h : Bs v a n c l) => first_all h hz)
  have hn0 : (n : Int) ≤ 1000000 := by omega
  have HLN := Lib.hid hx.len
  obtain ⟨w2, hw2⟩ : ∃ w2, (w.alloc (.cells #[.int .i64 0, .int .i64 0, .bool false, .int .i64 0, .int .i64 0, .int .i64 0] 25)).alloc (.cells #[.int .i64 0, .int .i64 0] 28) = w2 := ⟨_, rfl⟩
  obtain ⟨H, hH⟩ : ∃ H, w.heap.size = H := ⟨_, rfl⟩
  rw [hH]
  have R2 : Hid (Blk w2 H 25 #[.int .i64 0, .int .i64 0, .bool false, .int .i64 0, .int .i64 0, .int .i64 0]) := by
    rw [← hw2, ← hH]
    exact (Blk.new w 25 #[.int .i64 0, .int .i64 0, .bool false, .int .i64 0, .int .i64 0, .int .i64 0]).alloc _
  have S2 : Hid (Blk w2 (H + 1) 28 #[.int .i64 0, .int .i64 0]) := by
    rw [← hw2, ← hH]
    have := Blk.new (w.alloc (.cells #[.int .i64 0, .int .i64 0, .bool false, .int .i64 0, .int .i64 0, .int .i64 0] 25)) 28 #[.int .i64 0, .int .i64 0]
    rw [Hid]
    simpa using this
  have Q2 : Hid (Below H w w2) := by
    rw [← hw2, ← hH]
    exact bal (bal (Below.refl _ _) _) _
  have X2 : Hid (Bs w2 a n c l) := by
    rw [← hw2]
    exact (hx.alloc _).alloc _
  obtain ⟨B, hB⟩ : ∃ B, H + 1 = B := ⟨_, rfl⟩
  rw [hB] at S2
  have hHB : H ≤ B := by omega
  have nHB : H ≠ B := by omega
  have nBH : B ≠ H := by omega
  have L2 := Lib.hid S2.out.lt
  have M2 := Lib.hid R2.out.lt
  clear hx
  go_enter Try.func11, Try.ntmps11
  go_wp2_with fail
  with_reducible refine (HX.out _ X2.out).mono ?_
  rintro e w3 ⟨rfl, q⟩
  have R3 := Lib.hid (R2.out.below q M2.out)
  have S3 := Lib.hid (S2.out.below q L2.out)
  have Q3 : Hid (Below H w w3) := Q2.out.trans (q.mono (by have := M2.out; omega))
  obtain ⟨G, hG⟩ : ∃ G, w3.heap.size = G := ⟨_, rfl⟩
  have lB : B < G := by rw [← hG]; exact S3.out.lt
  have lH : H < G := by omega
  clear q hw2 hB R2 S2 Q2 X2 HX L2 M2 hH
  have HM := Lib.hid (one_fst_more (l := l))
  have HS := Lib.hid (one_fst_same (l := l))
  generalize fstR l 0 = R at *
  obtain ⟨⟨cl, nu, co, st, bo, en⟩, C, O⟩ := R
  have hN := HLN.out
  rw [hN] at HM HS
  clear HLN hN
  dsimp only at HM HS
  obtain ⟨w4, hw4⟩ : ∃ w4, (w3.alloc (.cells #[.int .i64 cl, .int .i64 nu, .bool co, .int .i64 st, .int .i64 bo, .int .i64 en] 25)).alloc (.cells #[.int .i64 C, .int .i64 O] 28) = w4 := ⟨_, rfl⟩
  obtain ⟨D, hD⟩ : ∃ D, G + 1 = D := ⟨_, rfl⟩
  have R4 : Hid (Blk w4 H 25 #[.int .i64 0, .int .i64 0, .bool false, .int .i64 0, .int .i64 0, .int .i64 0]) := by
    rw [← hw4]
    exact (R3.out.alloc _).alloc _
  have S4 : Hid (Blk w4 B 28 #[.int .i64 0, .int .i64 0]) := by
    rw [← hw4]
    exact (S3.out.alloc _).alloc _
  have Q4 : Hid (Below H w w4) := by
    rw [← hw4]
    exact (Q3.out.alloc (by omega) _).alloc (by simp; omega) _
  have H4 : Hid (Blk w4 G 25 #[.int .i64 cl, .int .i64 nu, .bool co, .int .i64 st, .int .i64 bo, .int .i64 en]) := by
    rw [← hw4, ← hG]
    exact (Blk.new w3 25 #[.int .i64 cl, .int .i64 nu, .bool co, .int .i64 st, .int .i64 bo, .int .i64 en]).alloc _
  have E4 : Hid (Blk w4 D 28 #[.int .i64 C, .int .i64 O]) := by
    rw [← hw4, ← hD, ← hG]
    have := Blk.new (w3.alloc (.cells #[.int .i64 cl, .int .i64 nu, .bool co, .int .i64 st, .int .i64 bo, .int .i64 en] 25)) 28 #[.int .i64 C, .int .i64 O]
    rw [Hid]
    simpa using this
  have nHD : H ≠ D := by omega
  have nBD : B ≠ D := by omega
  have nHG : H ≠ G := by omega
  have nBG : B ≠ G := by omega
  have HW4 := Lib.hid hw4
  have HDD := Lib.hid hD
  have nGD : G ≠ D := by omega
  have M4 : Hid (w4.heap.size = D + 1) := by
    rw [← hw4, ← hD, ← hG, Hid]
    simp
  clear R3 S3 Q3 hw4 hD
  unfold elV erV
  dsimp only
  go_upto_region 2 with fail
  rw [HW4.out, HDD.out]
  clear HW4 HDD hG
  by_cases hc : C = 0
  · subst hc
    by_cases hlt : en < n
    · have HO := Lib.hid (HM.out rfl hlt)
      clear HM HS
      obtain ⟨r0, r1, r2, r3, r4, r5⟩ := R4.out.cellsE
      obtain ⟨s0, s1, sl, sf⟩ := S4.out.cells2
      obtain ⟨e0, e1, dl, df⟩ := E4.out.cells2
      have rl := R4.out.lt
      have rf := R4.out.frozen
      obtain ⟨h0, h1, h2, h3, h4, h5⟩ := H4.out.cellsE
      clear H4 E4
      go_wp2_with fail
      first | go_region | skip
      all_goals
        try go_wp2_with fail
        have RF := Lib.hid (res8 R4.out S4.out nHB nBH Q4.out (Nat.le_refl H) hHB (.int .i64 0) (.int .i64 0) (.bool false) (.int .i64 0) (.int .i64 0) (.int .i64 0) (.int .i64 2) (.int .i64 en))
        have RG := Lib.hid (res8' R4.out S4.out nHB nBH Q4.out (Nat.le_refl H) hHB (.int .i64 0) (.int .i64 0) (.bool false) (.int .i64 0) (.int .i64 0) (.int .i64 0) (.int .i64 2) (.int .i64 en))
        first
        | (obtain ⟨K1, K2, K3⟩ := Hid.out RF; obtain ⟨y0, y1, y2, y3, y4, y5⟩ := K1.cellsE; obtain ⟨x0, x1, xl, xf⟩ := K2.cells2; clear xl xf; generalize ((((((((w4.setCell ⟨H, 0, none⟩ (.int .i64 0)).setCell ⟨H, 1, none⟩ (.int .i64 0)).setCell ⟨H, 2, none⟩ (.bool false)).setCell ⟨H, 3, none⟩ (.int .i64 0)).setCell ⟨H, 4, none⟩ (.int .i64 0)).setCell ⟨H, 5, none⟩ (.int .i64 0)).setCell ⟨B, 0, none⟩ (.int .i64 2)).setCell ⟨B, 1, none⟩ (.int .i64 en)) = w9 at *; exact bodyPost_ret (v := .tuple #[.agg #[.int .i64 0, .int .i64 0, .bool false, .int .i64 0, .int .i64 0, .int .i64 0], .agg #[.int .i64 2, .int .i64 en]]) (by simp [results, Try.results11, go_sem, y0, y1, y2, y3, y4, y5, x0, x1]) rfl ⟨by rw [HO.out.1]; have := HO.out.2; simp [el0, elV, erV]; omega, by first | exact K3 | exact below_drewN K3 1⟩)
        | (obtain ⟨K1, K2, K3⟩ := Hid.out RG; obtain ⟨y0, y1, y2, y3, y4, y5⟩ := K1.cellsE; obtain ⟨x0, x1, xl, xf⟩ := K2.cells2; clear xl xf; generalize ((((((((w4.setCell ⟨B, 0, none⟩ (.int .i64 2)).setCell ⟨B, 1, none⟩ (.int .i64 en)).setCell ⟨H, 0, none⟩ (.int .i64 0)).setCell ⟨H, 1, none⟩ (.int .i64 0)).setCell ⟨H, 2, none⟩ (.bool false)).setCell ⟨H, 3, none⟩ (.int .i64 0)).setCell ⟨H, 4, none⟩ (.int .i64 0)).setCell ⟨H, 5, none⟩ (.int .i64 0)) = w9 at *; exact bodyPost_ret (v := .tuple #[.agg #[.int .i64 0, .int .i64 0, .bool false, .int .i64 0, .int .i64 0, .int .i64 0], .agg #[.int .i64 2, .int .i64 en]]) (by simp [results, Try.results11, go_sem, y0, y1, y2, y3, y4, y5, x0, x1]) rfl ⟨by rw [HO.out.1]; have := HO.out.2; simp [el0, elV, erV]; omega, by first | exact K3 | exact below_drewN K3 1⟩)
    · have HO := Lib.hid (HS.out (fun h => hlt h.2))
      clear HM HS
      obtain ⟨r0, r1, r2, r3, r4, r5⟩ := R4.out.cellsE
      obtain ⟨s0, s1, sl, sf⟩ := S4.out.cells2
      obtain ⟨e0, e1, dl, df⟩ := E4.out.cells2
      have rl := R4.out.lt
      have rf := R4.out.frozen
      obtain ⟨h0, h1, h2, h3, h4, h5⟩ := H4.out.cellsE
      clear H4 E4
      go_wp2_with fail
      first | go_region | skip
      all_goals
        try go_wp2_with fail
        have RF := Lib.hid (res8 R4.out S4.out nHB nBH Q4.out (Nat.le_refl H) hHB (.int .i64 cl) (.int .i64 nu) (.bool co) (.int .i64 st) (.int .i64 bo) (.int .i64 en) (.int .i64 0) (.int .i64 O))
        have RG := Lib.hid (res8' R4.out S4.out nHB nBH Q4.out (Nat.le_refl H) hHB (.int .i64 cl) (.int .i64 nu) (.bool co) (.int .i64 st) (.int .i64 bo) (.int .i64 en) (.int .i64 0) (.int .i64 O))
        first
        | (obtain ⟨K1, K2, K3⟩ := Hid.out RF; obtain ⟨y0, y1, y2, y3, y4, y5⟩ := K1.cellsE; obtain ⟨x0, x1, xl, xf⟩ := K2.cells2; clear xl xf; generalize ((((((((w4.setCell ⟨H, 0, none⟩ (.int .i64 cl)).setCell ⟨H, 1, none⟩ (.int .i64 nu)).setCell ⟨H, 2, none⟩ (.bool co)).setCell ⟨H, 3, none⟩ (.int .i64 st)).setCell ⟨H, 4, none⟩ (.int .i64 bo)).setCell ⟨H, 5, none⟩ (.int .i64 en)).setCell ⟨B, 0, none⟩ (.int .i64 0)).setCell ⟨B, 1, none⟩ (.int .i64 O)) = w9 at *; exact bodyPost_ret (v := .tuple #[.agg #[.int .i64 cl, .int .i64 nu, .bool co, .int .i64 st, .int .i64 bo, .int .i64 en], .agg #[.int .i64 0, .int .i64 O]]) (by simp [results, Try.results11, go_sem, y0, y1, y2, y3, y4, y5, x0, x1]) rfl ⟨by rw [HO.out]; rfl, by first | exact K3 | exact below_drewN K3 1⟩)
        | (obtain ⟨K1, K2, K3⟩ := Hid.out RG; obtain ⟨y0, y1, y2, y3, y4, y5⟩ := K1.cellsE; obtain ⟨x0, x1, xl, xf⟩ := K2.cells2; clear xl xf; generalize ((((((((w4.setCell ⟨B, 0, none⟩ (.int .i64 0)).setCell ⟨B, 1, none⟩ (.int .i64 O)).setCell ⟨H, 0, none⟩ (.int .i64 cl)).setCell ⟨H, 1, none⟩ (.int .i64 nu)).setCell ⟨H, 2, none⟩ (.bool co)).setCell ⟨H, 3, none⟩ (.int .i64 st)).setCell ⟨H, 4, none⟩ (.int .i64 bo)).setCell ⟨H, 5, none⟩ (.int .i64 en)) = w9 at *; exact bodyPost_ret (v := .tuple #[.agg #[.int .i64 cl, .int .i64 nu, .bool co, .int .i64 st, .int .i64 bo, .int .i64 en], .agg #[.int .i64 0, .int .i64 O]]) (by simp [results, Try.results11, go_sem, y0, y1, y2, y3, y4, y5, x0, x1]) rfl ⟨by rw [HO.out]; rfl, by first | exact K3 | exact below_drewN K3 1⟩)
  · have HO := Lib.hid (HS.out (fun h => hc h.1))
    have hcb : ((C : Int) == 0) = false := by rw [beq_eq_false_iff_ne]; omega
    clear HM HS
    obtain ⟨r0, r1, r2, r3, r4, r5⟩ := R4.out.cellsE
    obtain ⟨s0, s1, sl, sf⟩ := S4.out.cells2
    obtain ⟨e0, e1, dl, df⟩ := E4.out.cells2
    have rl := R4.out.lt
    have rf := R4.out.frozen
    obtain ⟨h0, h1, h2, h3, h4, h5⟩ := H4.out.cellsE
    clear H4 E4
    go_wp2_with fail
    first | go_region | skip
    all_goals
      try go_wp2_with fail
      have RF := Lib.hid (res8 R4.out S4.out nHB nBH Q4.out (Nat.le_refl H) hHB (.int .i64 cl) (.int .i64 nu) (.bool co) (.int .i64 st) (.int .i64 bo) (.int .i64 en) (.int .i64 C) (.int .i64 O))
      have RG := Lib.hid (res8' R4.out S4.out nHB nBH Q4.out (Nat.le_refl H) hHB (.int .i64 cl) (.int .i64 nu) (.bool co) (.int .i64 st) (.int .i64 bo) (.int .i64 en) (.int .i64 C) (.int .i64 O))
      first
      | (obtain ⟨K1, K2, K3⟩ := Hid.out RF; obtain ⟨y0, y1, y2, y3, y4, y5⟩ := K1.cellsE; obtain ⟨x0, x1, xl, xf⟩ := K2.cells2; clear xl xf; generalize ((((((((w4.setCell ⟨H, 0, none⟩ (.int .i64 cl)).setCell ⟨H, 1, none⟩ (.int .i64 nu)).setCell ⟨H, 2, none⟩ (.bool co)).setCell ⟨H, 3, none⟩ (.int .i64 st)).setCell ⟨H, 4, none⟩ (.int .i64 bo)).setCell ⟨H, 5, none⟩ (.int .i64 en)).setCell ⟨B, 0, none⟩ (.int .i64 C)).setCell ⟨B, 1, none⟩ (.int .i64 O)) = w9 at *; exact bodyPost_ret (v := .tuple #[.agg #[.int .i64 cl, .int .i64 nu, .bool co, .int .i64 st, .int .i64 bo, .int .i64 en], .agg #[.int .i64 C, .int .i64 O]]) (by simp [results, Try.results11, go_sem, y0, y1, y2, y3, y4, y5, x0, x1]) rfl ⟨by rw [HO.out]; rfl, by first | exact K3 | exact below_drewN K3 1⟩)
      | (obtain ⟨K1, K2, K3⟩ := Hid.out RG; obtain ⟨y0, y1, y2, y3, y4, y5⟩ := K1.cellsE; obtain ⟨x0, x1, xl, xf⟩ := K2.cells2; clear xl xf; generalize ((((((((w4.setCell ⟨B, 0, none⟩ (.int .i64 C)).setCell ⟨B, 1, none⟩ (.int .i64 O)).setCell ⟨H, 0, none⟩ (.int .i64 cl)).setCell ⟨H, 1, none⟩ (.int .i64 nu)).setCell ⟨H, 2, none⟩ (.bool co)).setCell ⟨H, 3, none⟩ (.int .i64 st)).setCell ⟨H, 4, none⟩ (.int .i64 bo)).setCell ⟨H, 5, none⟩ (.int .i64 en)) = w9 at *; exact bodyPost_ret (v := .tuple #[.agg #[.int .i64 cl, .int .i64 nu, .bool co, .int .i64 st, .int .i64 bo, .int .i64 en], .agg #[.int .i64 C, .int .i64 O]]) (by simp [results, Try.results11, go_sem, y0, y1, y2, y3, y4, y5, x0, x1]) rfl ⟨by rw [HO.out]; rfl, by first | exact K3 | exact below_drewN K3 1⟩)
end Go.Proofs.Ytkkomaohcijhnaa
namespace Go.Proofs.Ytkkomaohcijhnaa
open Go.RowKit
theorem list_any {w : World} {a : Option Addr} {n c : Nat} {l : List UInt8} (hx : Bs w a n c l) (hz : n ≤ 1000000) (f t : Int) :
    Calls Try.prog 14 #[.slice a n c, .int .i64 f, .int .i64 t] w (ElsPost w (lstR l f t)) := by
  by_cases hb : f < 0 ∨ t < f ∨ (n : Int) < t
  · rw [lst_bad (by rw [hx.len]; exact hb)]
    refine (list_bad hx f t hb).mono ?_
    rintro e w' ⟨he, q⟩
    exact ⟨none, 0, he, OwnE.nil_ _ _ _, q⟩
  · obtain ⟨x, rfl⟩ : ∃ x : Nat, f = x := ⟨f.toNat, by omega⟩
    obtain ⟨y, rfl⟩ : ∃ y : Nat, t = y := ⟨t.toNat, by omega⟩
    rw [lst_ok (by omega) (by rw [hx.len]; omega)]
    exact list_ok hx hz x y (by omega) (by omega)
set_option maxRecDepth 100000 in
set_option maxHeartbeats 8000000 in
theorem parts_any {w : World} {a : Option Addr} {n c : Nat} {l : List UInt8} (hx : Bs w a n c l) (hz : n ≤ 1000000) (cl nu : Int) :
    Calls Try.prog 20 #[.slice a n c, .int .i64 cl, .int .i64 nu] w (ElsPost w (prtR l cl nu)) := by
  have H1 := Lib.hid (fun v (h : Bs v a n c l) => one_any h hz)
  have H2 := Lib.hid (fun f t v (h : Bs v a n c l) => list_any h hz f t)
  have h3 := fun (v : World) (xc xn : Int) (xk : Bool) (xs xb xe : Int) => is_any ⟨xc, xn, xk, xs, xb, xe⟩ cl true nu v
  unfold elV at h3
  dsimp only at h3
  have H3 := Lib.hid h3
  clear h3
  unfold ElsPost at *
  obtain ⟨w2, hw2⟩ : ∃ w2, w.alloc (.cells #[.int .i64 0, .int .i64 0] 28) = w2 := ⟨_, rfl⟩
  obtain ⟨H, hH⟩ : ∃ H, w.heap.size = H := ⟨_, rfl⟩
  rw [hH]
  have S2 : Hid (Blk w2 H 28 #[.int .i64 0, .int .i64 0]) := by
    rw [← hw2, ← hH]
    exact Blk.new w 28 #[.int .i64 0, .int .i64 0]
  have Q2 : Hid (Below H w w2) := by
    rw [← hw2, ← hH]
    exact bal (Below.refl _ _) _
  have X2 : Hid (Bs w2 a n c l) := by
    rw [← hw2]
    exact hx.alloc _
  have L2 := Lib.hid S2.out.lt
  clear hx
  go_enter Try.func20, Try.ntmps20
  go_wp2_with fail
  clear hw2 hH
  with_reducible refine (H1.out _ X2.out).mono ?_
  rintro e w3 ⟨rfl, q⟩
  have S3 := Lib.hid (S2.out.below q L2.out)
  have X3 := Lib.hid (X2.out.below q)
  have Q3 : Hid (Below H w w3) := Q2.out.trans (q.mono (by have := L2.out; omega))
  clear q S2 X2 Q2 L2
  have P1 := Lib.hid (fun h => prt_err (l := l) (c := cl) (n := nu) h)
  have P2 := Lib.hid (fun h h2 => prt_tag (l := l) (c := cl) (n := nu) h h2)
  have P3 := Lib.hid (fun h h2 => prt_ok (l := l) (c := cl) (n := nu) h h2)
  obtain ⟨R, hR0⟩ : ∃ R, prtR l cl nu = R := ⟨_, rfl⟩
  rw [hR0] at P1 P2 P3
  have HRR := Lib.hid hR0
  clear hR0
  generalize oneR l = O1 at *
  obtain ⟨⟨xc, xn, xk, xs, xb, xe⟩, C, O⟩ := O1
  unfold elV erV
  dsimp only at P1 P2 P3 ⊢
  obtain ⟨G, hG⟩ : ∃ G, w3.heap.size = G := ⟨_, rfl⟩
  obtain ⟨D, hD⟩ : ∃ D, G + 1 = D := ⟨_, rfl⟩
  have lH : H < G := by rw [← hG]; exact S3.out.lt
  obtain ⟨w4, hw4⟩ : ∃ w4, (w3.alloc (.cells #[.int .i64 xc, .int .i64 xn, .bool xk, .int .i64 xs, .int .i64 xb, .int .i64 xe] 25)).alloc (.cells #[.int .i64 C, .int .i64 O] 28) = w4 := ⟨_, rfl⟩
  have B4 : Hid (Below w3.heap.size w3 w4) := by
    rw [← hw4]
    exact bal (bal (Below.refl _ _) _) _
  have S4 := Lib.hid (S3.out.below B4.out S3.out.lt)
  have X4 := Lib.hid (X3.out.below B4.out)
  have Q4 : Hid (Below H w w4) := Q3.out.trans (B4.out.mono (by omega))
  have T4 : Hid (Blk w4 G 25 #[.int .i64 xc, .int .i64 xn, .bool xk, .int .i64 xs, .int .i64 xb, .int .i64 xe]) := by
    rw [← hw4, ← hG]
    exact (Blk.new w3 25 #[.int .i64 xc, .int .i64 xn, .bool xk, .int .i64 xs, .int .i64 xb, .int .i64 xe]).alloc _
  have E4 : Hid (Blk w4 D 28 #[.int .i64 C, .int .i64 O]) := by
    rw [← hw4, ← hD, ← hG]
    have := Blk.new (w3.alloc (.cells #[.int .i64 xc, .int .i64 xn, .bool xk, .int .i64 xs, .int .i64 xb, .int .i64 xe] 25)) 28 #[.int .i64 C, .int .i64 O]
    rw [Hid]
    simpa using this
  have HW4 := Lib.hid hw4
  have HDD := Lib.hid hD
  have nHD : H ≠ D := by omega
  have nHG : H ≠ G := by omega
  clear hw4 hD S3 X3 Q3 B4
  go_upto_region 2 with fail
  rw [HW4.out, HDD.out]
  clear HW4 HDD hG
  obtain ⟨t0, t1, t2, t3, t4, t5⟩ := T4.out.cellsE
  obtain ⟨e0, e1, dl, df⟩ := E4.out.cells2
  obtain ⟨s0, s1, sl, sf⟩ := S4.out.cells2
  clear df
  by_cases hc : C = 0
  · subst hc
    have HTF : isE ⟨xc, xn, xk, xs, xb, xe⟩ cl true nu = decide (xc = cl ∧ xk = true ∧ xn = nu) := rfl
    by_cases ht : xc = cl ∧ xn = nu ∧ xk = true
    · have HR := Lib.hid (P3.out rfl ht)
      have hi : isE ⟨xc, xn, xk, xs, xb, xe⟩ cl true nu = true := decide_eq_true ⟨ht.1, ht.2.2, ht.2.1⟩
      have HIT := Lib.hid hi
      clear hi HTF ht P1 P2 P3
      go_wp2_with fail
      with_reducible refine (H3.out _ _ _ _ _ _ _).mono ?_
      rintro e w5 ⟨rfl, q⟩
      have HI := Lib.hid HIT.out
      have S5 := Lib.hid (S4.out.below q S4.out.lt)
      have X5 := Lib.hid (X4.out.below q)
      have T5 := Lib.hid (T4.out.below q T4.out.lt)
      have Q5 : Hid (Below H w w5) := Q4.out.trans (q.mono (by have := S4.out.lt; omega))
      clear q X4 t0 t1 t2 t3 t4 t5 s0 s1 sl sf e0 e1 dl S4 Q4 T4
      rw [HI.out]
      obtain ⟨t0, t1, t2, t3, t4, t5⟩ := T5.out.cellsE
      obtain ⟨s0, s1, sl, sf⟩ := S5.out.cells2
      clear HIT HI
      go_wp2_with fail
      with_reducible refine (H2.out _ _ _ X5.out).mono ?_
      rintro e w6 ⟨a5, c5, rfl, ho, q⟩
      have S6 := Lib.hid (S5.out.below q S5.out.lt)
      have Q6 : Hid (Below H w w6) := Q5.out.trans (q.mono (by have := S5.out.lt; omega))
      have O6 := Lib.hid (ownE_more ho (show H + 1 ≤ w5.heap.size from S5.out.lt))
      clear q ho s0 s1 sl sf S5 Q5
      unfold erV
      generalize lstR l xb xe = R2 at *
      obtain ⟨es, C2, OO⟩ := R2
      dsimp only at O6 ⊢
      obtain ⟨s0, s1, sl, sf⟩ := S6.out.cells2
      have K := Lib.hid (S6.out.two (.int .i64 C2) (.int .i64 OO))
      have QF := Lib.hid (belowS (belowS Q6.out (Nat.le_refl H) 0 (.int .i64 C2)) (Nat.le_refl H) 1 (.int .i64 OO))
      have OF := Lib.hid ((O6.out.keep (w' := (w6.setCell ⟨H, 0, none⟩ (.int .i64 C2)).setCell ⟨H, 1, none⟩ (.int .i64 OO)) fun x hx => by
        have hb := (O6.out.base x hx).1
        rw [Below.heap_setCell _ ⟨H, 1, none⟩ _ _ (show x.block ≠ H by omega), Below.heap_setCell _ ⟨H, 0, none⟩ _ _ (show x.block ≠ H by omega)]))
      go_wp2_with fail
      obtain ⟨x0, x1, xl, xf⟩ := K.out.cells2
      have q := QF.out
      have OF9 := OF.out
      clear xl xf
      generalize (w6.setCell ⟨H, 0, none⟩ (.int .i64 C2)).setCell ⟨H, 1, none⟩ (.int .i64 OO) = w9 at *
      exact bodyPost_ret (v := .tuple #[.slice a5 es.length c5, .agg #[.int .i64 C2, .int .i64 OO]]) (by simp [results, Try.results20, go_sem, x0, x1]) rfl ⟨a5, c5, by rw [HRR.out, HR.out]; rfl, by rw [HRR.out, HR.out]; exact ownE_more OF9 (Nat.le_succ H), q⟩
    · have HR := Lib.hid (P2.out rfl ht)
      have hi : isE ⟨xc, xn, xk, xs, xb, xe⟩ cl true nu = false := decide_eq_false (fun h => ht ⟨h.1, h.2.2, h.2.1⟩)
      have HIT := Lib.hid hi
      clear hi HTF ht P1 P2 P3
      go_wp2_with fail
      with_reducible refine (H3.out _ _ _ _ _ _ _).mono ?_
      rintro e w5 ⟨rfl, q⟩
      have HI := Lib.hid HIT.out
      have S5 := Lib.hid (S4.out.below q S4.out.lt)
      have X5 := Lib.hid (X4.out.below q)
      have T5 := Lib.hid (T4.out.below q T4.out.lt)
      have Q5 : Hid (Below H w w5) := Q4.out.trans (q.mono (by have := S4.out.lt; omega))
      clear q X4 t0 t1 t2 t3 t4 t5 s0 s1 sl sf e0 e1 dl S4 Q4 T4
      rw [HI.out]
      obtain ⟨t0, t1, t2, t3, t4, t5⟩ := T5.out.cellsE
      obtain ⟨s0, s1, sl, sf⟩ := S5.out.cells2
      clear HIT HI
      have K := Lib.hid (S5.out.two (.int .i64 3) (.int .i64 0))
      have QF := Lib.hid (belowS (belowS Q5.out (Nat.le_refl H) 0 (.int .i64 3)) (Nat.le_refl H) 1 (.int .i64 0))
      go_wp2_with fail
      obtain ⟨x0, x1, xl, xf⟩ := K.out.cells2
      have q := QF.out
      clear xl xf
      generalize (w5.setCell ⟨H, 0, none⟩ (.int .i64 3)).setCell ⟨H, 1, none⟩ (.int .i64 0) = w9 at *
      exact bodyPost_ret (v := .tuple #[.slice none 0 0, .agg #[.int .i64 3, .int .i64 0]]) (by simp [results, Try.results20, go_sem, x0, x1]) rfl ⟨none, 0, by rw [HRR.out, HR.out]; rfl, by rw [HRR.out, HR.out]; exact OwnE.nil_ _ _ _, q⟩
  · have HR := Lib.hid (P1.out hc)
    have hcb : ((C : Int) != 0) = true := by rw [bne_iff_ne]; omega
    have K := Lib.hid (S4.out.two (.int .i64 C) (.int .i64 O))
    have QF := Lib.hid (belowS (belowS Q4.out (Nat.le_refl H) 0 (.int .i64 C)) (Nat.le_refl H) 1 (.int .i64 O))
    clear P1 P2 P3
    go_wp2_with fail
    go_region
    all_goals
      try go_wp2_with fail
      obtain ⟨x0, x1, xl, xf⟩ := K.out.cells2
      have q := QF.out
      clear xl xf
      generalize (w4.setCell ⟨H, 0, none⟩ (.int .i64 C)).setCell ⟨H, 1, none⟩ (.int .i64 O) = w9 at *
      exact bodyPost_ret (v := .tuple #[.slice none 0 0, .agg #[.int .i64 C, .int .i64 O]]) (by simp [results, Try.results20, go_sem, x0, x1]) rfl ⟨none, 0, by rw [HRR.out, HR.out]; rfl, by rw [HRR.out, HR.out]; exact OwnE.nil_ _ _ _, by first | exact q | exact below_drewN q 1⟩
end Go.Proofs.Ytkkomaohcijhnaa
namespace Go.Proofs.Ytkkomaohcijhnaa
open Go.RowKit
set_option maxRecDepth 100000
set_option maxRecDepth 100000 in
set_option maxHeartbeats 1000000 in
theorem concat_rw {w : World} {a0 : Option Addr} {n0 c0 : Nat} {ss : List Sl} (hr : Rw w a0 n0 c0 ss) (ht : tot ss ≤ 16777216) (hl : n0 ≤ 1000) :
    Calls Try.prog 38 #[.slice a0 n0 c0] w fun e w' => ∃ a c, e = .returned (.slice a (tot ss) c) ∧ Own w' w.heap.size 5 a (tot ss) c (cat ss) ∧ Below w.heap.size w w' := by
  obtain ⟨i0, hi, hz0, hz1, hz2⟩ := info_parts info_u8
  have hL := Lib.hid hr.len
  have HR := Lib.hid hr
  have hL1 : (n0 : Int) ≤ 1000 := by omega
  clear hr hl
  go_enter Try.func38, Try.ntmps38
  go_wp2_with fail
  go_loop [3, 11] (fun s i => ∃ k : Nat, k ≤ n0 ∧ i = .int .i64 k ∧ s = .int .i64 (tot (ss.take k))) (fun _ i => n0 - (intOf i).toNat)
  case atStart => exact ⟨0, Nat.zero_le _, rfl, rfl⟩
  case round =>
    obtain ⟨k, hk, rfl, rfl⟩ := hrel
    obtain ⟨T, hT⟩ : ∃ T, Hid (tot (ss.take k) = T) := ⟨_, rfl⟩
    have hTb : (T : Int) ≤ 16777216 := by have := tot_take_le ss k; have := hT.out; omega
    rw [hT.out]
    by_cases hlt : k < n0
    · have hks : k < ss.length := by have := hL.out; omega
      obtain ⟨b, off, _, rfl, hb, hc, _⟩ := HR.out.at_ (i := k) hlt
      have hT2 := Lib.hid (tot_take hks)
      have hn : (ss[k].n : Int) ≤ 16777216 := by have := tot_take_le ss (k + 1); have := hT2.out; omega
      have hn2 : (T : Int) + ss[k].n ≤ 16777216 := by have := tot_take_le ss (k + 1); have := hT2.out; have := hT.out; omega
      rw [hT.out] at hT2
      generalize ss[k] = s at *
      have hkk : (k : Int) < n0 := by omega
      have hk0 : (0 : Int) ≤ k := by omega
      have hT0 : (0 : Int) ≤ T := by omega
      clear hks
      go_wp2
      go_round
      case rel => exact ⟨k + 1, by omega, by go_num, by rw [hT2.out]; rfl⟩
      case measure => simp [intOf]; omega
    · go_wp2_with fail
      have hkL : k = n0 := by omega
      have hTt : Hid (T = tot ss) := by
        have h1 := hT.out
        have h2 := hL.out
        rw [List.take_of_length_le (by omega)] at h1
        exact h1.symm
      clear hlt hk hkL
      refine (grow_nil (by omega) _).mono ?_
      rintro e w1 ⟨a1, c1, rfl, ho, hb1⟩
      have O1 := Lib.hid ho
      have B1 := Lib.hid hb1
      clear ho hb1
      go_wp2_with fail
      go_loopw [6, 27] (fun v i wr => ∃ k : Nat, ∃ a c, k ≤ n0 ∧ i = .int .i64 k ∧ v = .slice a (tot (ss.take k)) c ∧ Own wr w.heap.size 5 a (tot (ss.take k)) c (cat (ss.take k)) ∧ Below w.heap.size w wr) (fun _ i _ => n0 - (intOf i).toNat)
      case atStart => exact ⟨0, a1, c1, Nat.zero_le _, rfl, rfl, O1.out, B1.out⟩
      case round =>
        clear O1 B1 hT hTb hTt
        obtain ⟨k2, a2, c2, hk, rfl, rfl, ho, hb2⟩ := hrel
        have O2 := Lib.hid ho
        have B2 := Lib.hid hb2
        obtain ⟨M, hM⟩ : ∃ M, Hid (tot (ss.take k2) = M) := ⟨_, rfl⟩
        have hMb : (M : Int) ≤ 16777216 := by have := tot_take_le ss k2; have := hM.out; omega
        rw [hM.out] at O2 ⊢
        have hsz := hb2.size
        clear ho hb2
        by_cases hlt : k2 < n0
        · have hks : k2 < ss.length := by have := hL.out; omega
          obtain ⟨b, off, _, rfl, hb, hc0, hs0⟩ := HR.out.at_ (i := k2) hlt
          have hc := (B2.out.cell (p := ⟨b, off + k2, none⟩) hb).trans hc0
          have hS := Lib.hid (hs0.below B2.out)
          clear hc0 hs0
          have hT2 := Lib.hid (tot_take hks)
          have hC2 := Lib.hid (cat_take hks)
          have hn2 : M + ss[k2].n ≤ 16777216 := by have := tot_take_le ss (k2 + 1); have := hT2.out; have := hM.out; omega
          rw [hM.out] at hT2
          generalize ss[k2] = s at *
          have hkk : (k2 : Int) < n0 := by omega
          have hk0 : (0 : Int) ≤ k2 := by omega
          clear hks
          go_wp2_with (at_builtin; go_must (refine wpList_app _ rfl _ _ 22 rfl w.heap.size 5 i0 Try.underlying22 hi hz0 hz1 hz2 a2 M c2 _ rfl O2.out s.a s.n s.c s.l rfl hS.out hn2 hsz ?_))
          intro a3 c3 w3 ho3 hg3
          have O3 := Lib.hid ho3
          have B3 := Lib.hid (B2.out.trans (app_below O2.out hg3 (Nat.le_refl _) hsz))
          clear ho3 hg3
          go_wp2
          go_roundw
          case rel => exact ⟨k2 + 1, a3, c3, by omega, by go_num, by rw [hT2.out], by rw [hT2.out, hC2.out]; exact O3.out, B3.out⟩
          case measure => simp [intOf]; omega
        · have hMt : Hid (M = tot ss) := by
            have h1 := hM.out
            have h2 := hL.out
            rw [List.take_of_length_le (by omega)] at h1
            exact h1.symm
          have hCt : Hid (cat (ss.take k2) = cat ss) := by
            have h2 := hL.out
            rw [List.take_of_length_le (by omega)]
            rfl
          rw [hCt.out] at O2
          go_wp2
          go_ret
          exact ⟨a2, c2, by rw [← hMt.out]; rfl, by rw [← hMt.out]; exact O2.out, B2.out⟩
theorem encode_any (cl nu : Int) (k : Bool) {w : World} {a : Option Addr} {n c : Nat} {l : List UInt8} (hx : Bs w a n c l) (hz : n ≤ 1000000) :
    Calls Try.prog 37 #[.int .i64 cl, .bool k, .int .i64 nu, .slice a n c] w fun e w' => ∃ a' c', e = .returned (.tuple #[.slice a' (encR cl nu k l).1.length c', .int .i64 (encR cl nu k l).2]) ∧ Own w' w.heap.size 5 a' (encR cl nu k l).1.length c' (encR cl nu k l).1 ∧ Below w.heap.size w w' := by
  unfold encR
  by_cases h : 0 ≤ cl ∧ cl ≤ 3 ∧ 0 ≤ nu ∧ nu ≤ 30
  · obtain ⟨x, rfl⟩ : ∃ x : Nat, cl = x := ⟨cl.toNat, by omega⟩
    obtain ⟨y, rfl⟩ : ∃ y : Nat, nu = y := ⟨nu.toNat, by omega⟩
    rw [if_pos h]
    exact encode_ok (by omega) (by omega) k hx hz
  · rw [if_neg h]
    refine (encode_bad (by omega) k _ w).mono ?_
    rintro e w' ⟨he, rfl⟩
    exact ⟨none, 0, he, World.ownsRow_nil _ _ _ _, Below.refl _ _⟩
set_option maxHeartbeats 8000000 in
theorem wrap_any (cl nu : Int) (k : Bool) {w : World} {a : Option Addr} {n c : Nat} {ss : List Sl} (hx : Rw w a n c ss) (hn : n ≤ 1000) (ht : tot ss ≤ 900000) :
    Calls Try.prog 22 #[.int .i64 cl, .bool k, .int .i64 nu, .slice a n c] w fun e w' => ∃ a' c', e = .returned (.tuple #[.slice a' (encR cl nu k (cat ss)).1.length c', .int .i64 (encR cl nu k (cat ss)).2]) ∧ Own w' w.heap.size 5 a' (encR cl nu k (cat ss)).1.length c' (encR cl nu k (cat ss)).1 ∧ Below w.heap.size w w' := by
  have HE := Lib.hid (fun v a m c (h : Bs v a m c (cat ss)) (hz : m ≤ 1000000) => encode_any cl nu k h hz)
  have HC := Lib.hid (fun (_ : Unit) => concat_rw hx (by omega) hn)
  have HL := Lib.hid hx.len
  have HX := Lib.hid hx
  have HT := Lib.hid ht
  have hn0 : (n : Int) ≤ 1000 := by omega
  clear hx ht
  go_enter Try.func22, Try.ntmps22
  go_wp2_with fail
  go_loop [10, 15] (fun r i => ∃ j : Nat, j ≤ n ∧ i = .int .i64 j ∧ r = .int .i64 (2147483647 - (tot (ss.take j) : Nat))) (fun _ i => n - (intOf i).toNat)
  case atStart => exact ⟨0, Nat.zero_le _, rfl, rfl⟩
  case round =>
    obtain ⟨j, hj, rfl, rfl⟩ := hrel
    have hj0 : (0 : Int) ≤ j := by omega
    by_cases hlt : j < n
    · have hlt2 : (j : Int) < n := by omega
      obtain ⟨b1, o1, hjl, rfl, h1, c1, s1⟩ := HX.out.at_ hlt
      have TT := Lib.hid (tot_take hjl)
      have hle := tot_take_le ss (j + 1)
      have htt := HT.out
      rw [TT.out] at hle
      obtain ⟨N, hN⟩ : ∃ N, tot (ss.take j) = N := ⟨_, rfl⟩
      have HN := Lib.hid hN
      rw [hN] at hle TT ⊢
      clear hN
      obtain ⟨x, hxx⟩ : ∃ x, ss[j] = x := ⟨_, rfl⟩
      rw [hxx] at TT c1 hle
      clear hxx s1
      obtain ⟨xa, xn, xc, xl⟩ := x
      dsimp only at TT c1 hle
      have g1 : ¬ (xn : Int) > 2147483647 - (N : Nat) := by omega
      have v1 : IntKind.i64.wrap (2147483647 - (N : Nat) - (xn : Nat) : Int) = 2147483647 - (N : Nat) - (xn : Nat) := by rw [IntKind.wrap_i64]; omega
      have HE2 : Hid ((2147483647 : Int) - (N : Nat) - (xn : Nat) = 2147483647 - ((N + xn : Nat) : Int)) := by rw [Hid]; omega
      clear hle htt
      obtain ⟨M, hM⟩ : ∃ M : Int, (2147483647 : Int) - (N : Nat) = M := ⟨_, rfl⟩
      rw [hM] at g1 v1 HE2 ⊢
      clear hM
      go_wp2_with fail
      go_round
      case rel => exact ⟨j + 1, by omega, by go_num, by rw [TT.out, HE2.out]⟩
      case measure => simp [intOf]; omega
    · obtain rfl : j = n := by omega
      have hlt2 : ¬ (j : Int) < j := by omega
      go_wp2_with fail
      with_reducible refine (HC.out ()).mono ?_
      rintro e w5 ⟨a5, c5, rfl, ho5, q⟩
      have S5 := Lib.hid ho5.bs
      have Q5 := Lib.hid q
      have hz5 := q.size
      clear ho5 q
      have hbd : tot ss ≤ 1000000 := by have := HT.out; omega
      go_wp2_with fail
      with_reducible refine (HE.out _ _ _ _ S5.out hbd).mono ?_
      rintro e w6 ⟨a6, c6, rfl, ho6, q⟩
      have Q6 := Lib.hid (Q5.out.trans (q.mono hz5))
      have O6 := Lib.hid (ho6.more hz5)
      clear q ho6
      go_wp2_with fail
      go_ret2
      exact ⟨a6, c6, rfl, O6.out, Q6.out⟩
set_option maxHeartbeats 4000000 in
theorem sequence_any {w : World} {a : Option Addr} {n c : Nat} {ss : List Sl} (hx : Rw w a n c ss) (hn : n ≤ 1000) (ht : tot ss ≤ 900000) :
    Calls Try.prog 24 #[.slice a n c] w fun e w' => ∃ a' c', e = .returned (.tuple #[.slice a' (encR 0 16 true (cat ss)).1.length c', .int .i64 (encR 0 16 true (cat ss)).2]) ∧ Own w' w.heap.size 5 a' (encR 0 16 true (cat ss)).1.length c' (encR 0 16 true (cat ss)).1 ∧ Below w.heap.size w w' := by
  have HW := Lib.hid (wrap_any 0 16 true hx hn ht)
  clear hx
  generalize encR 0 16 true (cat ss) = R at *
  go_enter Try.func24, Try.ntmps24
  go_wp2_with fail
  with_reducible refine HW.out.mono ?_
  rintro e w6 ⟨a6, c6, rfl, ho6, q⟩
  have Q6 := Lib.hid q
  have O6 := Lib.hid ho6
  clear q ho6
  go_wp2_with fail
  go_ret2
  exact ⟨a6, c6, rfl, O6.out, Q6.out⟩
end Go.Proofs.Ytkkomaohcijhnaa
namespace Go.Proofs.Ytkkomaohcijhnaa
open Go.RowKit
theorem plist_any {v : World} {a : Option Addr} {n c : Nat} {l : List UInt8} {f t : Int} (hn : n ≤ 1000000) (hx : Bs v a n c l) :
    Calls Try.prog 14 #[.slice a n c, .int .i64 f, .int .i64 t] v fun e w' => ∃ a' c', e = .returned (.tuple #[.slice a' (lstR l f t).els.length c', erV (lstR l f t).code (lstR l f t).off]) ∧ Ew w' a' (lstR l f t).els.length c' (lstR l f t).els ∧ Below v.heap.size v w' :=
  (list_any hx hn f t).mono fun _ _ ⟨a', c', he, ho, hq⟩ => ⟨a', c', he, ho.ew, hq⟩
theorem pparts_any {v : World} {a : Option Addr} {n c : Nat} {l : List UInt8} {cl nu : Int} (hn : n ≤ 1000000) (hx : Bs v a n c l) :
    Calls Try.prog 20 #[.slice a n c, .int .i64 cl, .int .i64 nu] v fun e w' => ∃ a' c', e = .returned (.tuple #[.slice a' (prtR l cl nu).els.length c', erV (prtR l cl nu).code (prtR l cl nu).off]) ∧ Ew w' a' (prtR l cl nu).els.length c' (prtR l cl nu).els ∧ Below v.heap.size v w' :=
  (parts_any hx hn cl nu).mono fun _ _ ⟨a', c', he, ho, hq⟩ => ⟨a', c', he, ho.ew, hq⟩
theorem pseq_any {v : World} {a : Option Addr} {n c : Nat} {ss : List Sl} (hn : n ≤ 1000) (ht : tot ss ≤ 900000) (hx : Rw v a n c ss) :
    Calls Try.prog 24 #[.slice a n c] v fun e w' => ∃ a' c', e = .returned (.tuple #[.slice a' (encR 0 16 true (cat ss)).1.length c', .int .i64 (encR 0 16 true (cat ss)).2]) ∧ Bs w' a' (encR 0 16 true (cat ss)).1.length c' (encR 0 16 true (cat ss)).1 ∧ Below v.heap.size v w' :=
  (sequence_any hx hn ht).mono fun _ _ ⟨a', c', he, ho, hq⟩ => ⟨a', c', he, ho.bs, hq⟩
theorem awakeEl_any (w : World) : Calls Try.prog 10 #[] w fun e w' => e = .returned (.bool true) ∧ Below w.heap.size w w' :=
  elawake_walk w (fun _ _ _ _ _ _ _ hn hx _ => plist_any hn hx) (fun _ _ _ _ _ hn ht hx _ => pseq_any hn ht hx) (fun _ _ _ _ _ hn hx _ => tags_any hx hn)
end Go.Proofs.Ytkkomaohcijhnaa
namespace Go.Proofs.Ytkkomaohcijhnaa
open Go.RowKit
theorem within_err {c o n : Int} (hc : 0 < c) (h0 : 0 ≤ o) (h1 : o ≤ n) (w : World) :
    Calls Try.prog 13 #[.agg #[.int .i64 c, .int .i64 o], .int .i64 n] w fun e w' => e = .returned (.bool true) ∧ Below w.heap.size w w' := by
  have hc2 : (c == 0) = false := by simp; omega
  go_enter Try.func13, Try.ntmps13
  go_wp2
  go_ret
  exact ⟨rfl, bal (Below.refl _ _) _⟩
theorem within_zero {n : Int} (w : World) :
    Calls Try.prog 13 #[.agg #[.int .i64 0, .int .i64 0], .int .i64 n] w fun e w' => e = .returned (.bool true) ∧ Below w.heap.size w w' := by
  go_enter Try.func13, Try.ntmps13
  go_wp2
  go_ret
  exact ⟨rfl, bal (Below.refl _ _) _⟩
end Go.Proofs.Ytkkomaohcijhnaa
namespace Go.Proofs.Ytkkomaohcijhnaa
open Go.RowKit
theorem one_off {l : List UInt8} : ((oneR l).code = 0 → (oneR l).off = 0) ∧ (oneR l).off ≤ l.length := by
  by_cases hc : (rdNext l).h.code = 0
  · by_cases hr : (rdNext l).rest.length = 0
    · rw [one_all hc hr]
      exact ⟨fun _ => rfl, Nat.zero_le _⟩
    · rw [one_more hc hr]
      exact ⟨fun h => (by cases h), (elN_bd hc).2.1⟩
  · rw [one_err hc]
    exact ⟨fun h => absurd h hc, (within_next hc).1⟩
theorem within_any (C O n : Nat) (h1 : C = 0 → O = 0) (h2 : O ≤ n) (w : World) :
    Calls Try.prog 13 #[.agg #[.int .i64 C, .int .i64 O], .int .i64 n] w fun e w' => e = .returned (.bool true) ∧ Below w.heap.size w w' := by
  by_cases hc : C = 0
  · obtain rfl := h1 hc
    subst hc
    exact within_zero (n := n) w
  · exact within_err (c := C) (o := O) (n := n) (by omega) (by omega) (by omega) w
set_option maxRecDepth 100000 in
set_option maxHeartbeats 8000000 in
theorem one_walk {w : World} {a : Option Addr} {n c : Nat} {l : List UInt8} (hx : Bs w a n c l)
    (HA : ∀ v : World, Below w.heap.size w v → Calls Try.prog 10 #[] v fun e w' => e = .returned (.bool true) ∧ Below v.heap.size v w')
    (HP : ∀ v : World, n ≤ 1000000 → Bs v a n c l → Below w.heap.size w v → Calls Try.prog 11 #[.slice a n c] v fun e w' => e = .returned (.tuple #[elV (oneR l).el, erV (oneR l).code (oneR l).off]) ∧ Below v.heap.size v w') :
    Calls Try.prog 3 #[.slice a n c] w fun e w' => e = .returned (.bool true) ∧ Below w.heap.size w w' := by
  have H0 := Lib.hid HA
  have Q0 := Lib.hid (Below.refl w.heap.size w)
  have X0 := Lib.hid hx
  have hw := one_off (l := l)
  rw [hx.len] at hw
  have hcm : n ≤ 9223372036854775807 := by have := hx.2.1; have := hx.2.2.1; unfold maxLen at this; omega
  by_cases hn : n ≤ 2000
  · have hn2 : ¬ (2000 : Int) < n := by omega
    have H1 := Lib.hid (fun v h q => HP v (by omega) h q)
    have H2 := Lib.hid (fun v (h : Bs v a n c l) => ref_one_any h (by omega))
    have H3 := Lib.hid (fun v => within_any (oneR l).code (oneR l).off n hw.1 hw.2 v)
    clear HA HP hx hw
    generalize oneR l = O1 at *
    obtain ⟨⟨xc, xn, xk, xs, xb, xe⟩, C, O⟩ := O1
    unfold elV erV at *
    dsimp only at H1 H2 H3
    go_enter Try.func3, Try.ntmps3
    go_wp2_with fail
    with_reducible refine (H0.out _ Q0.out).mono ?_
    rintro e w1 ⟨rfl, q⟩
    have Q1 := Lib.hid (bthen Q0.out q)
    have X1 := Lib.hid (X0.out.below q)
    clear q
    go_wp2_with fail
    with_reducible refine (H1.out _ X1.out Q1.out).mono ?_
    rintro e w2 ⟨rfl, q⟩
    have Q2 := Lib.hid (bthen Q1.out q)
    have X2 := Lib.hid (X1.out.below q)
    clear q X1 Q1
    obtain ⟨G, hG⟩ : ∃ G, w2.heap.size = G := ⟨_, rfl⟩
    obtain ⟨w3, hw3⟩ : ∃ w3, (w2.alloc (.cells #[.int .i64 xc, .int .i64 xn, .bool xk, .int .i64 xs, .int .i64 xb, .int .i64 xe] 25)).alloc (.cells #[.int .i64 C, .int .i64 O] 28) = w3 := ⟨_, rfl⟩
    have X3 : Hid (Bs w3 a n c l) := by rw [← hw3]; exact (X2.out.alloc _).alloc _
    have Q3 : Hid (Below w.heap.size w w3) := by rw [← hw3]; exact bal (bal Q2.out _) _
    have T3 : Hid (Blk w3 G 25 #[.int .i64 xc, .int .i64 xn, .bool xk, .int .i64 xs, .int .i64 xb, .int .i64 xe]) := by
      rw [← hw3, ← hG]
      exact (Blk.new w2 25 #[.int .i64 xc, .int .i64 xn, .bool xk, .int .i64 xs, .int .i64 xb, .int .i64 xe]).alloc _
    have E3 : Hid (Blk w3 (G + 1) 28 #[.int .i64 C, .int .i64 O]) := by
      rw [← hw3, ← hG]
      have := Blk.new (w2.alloc (.cells #[.int .i64 xc, .int .i64 xn, .bool xk, .int .i64 xs, .int .i64 xb, .int .i64 xe] 25)) 28 #[.int .i64 C, .int .i64 O]
      rw [Hid]
      simpa using this
    have HW3 := Lib.hid hw3
    clear hw3
    go_wp2_with fail
    rw [HW3.out]
    clear HW3 hG X2 Q2
    with_reducible refine (H2.out _ X3.out).mono ?_
    rintro e w4 ⟨rfl, q⟩
    have Q4 := Lib.hid (bthen Q3.out q)
    have T4 := Lib.hid (T3.out.below q T3.out.lt)
    have E4 := Lib.hid (E3.out.below q E3.out.lt)
    clear q X3 Q3 T3 E3
    obtain ⟨t0, t1, t2, t3, t4, t5⟩ := T4.out.cellsE
    obtain ⟨e0, e1, el, ef⟩ := E4.out.cells2
    have tl := T4.out.lt
    obtain ⟨M, hM⟩ : ∃ M, w4.heap.size = M := ⟨_, rfl⟩
    rw [hM] at el tl
    clear ef
    have Q5 := Lib.hid (bal (bal Q4.out (.cells #[.int .i64 xc, .int .i64 xn, .bool xk, .int .i64 xs, .int .i64 xb, .int .i64 xe] 25)) (.cells #[.int .i64 C, .int .i64 O] 28))
    go_wp2_with fail
    with_reducible refine (H3.out _).mono ?_
    rintro e w6 ⟨rfl, q⟩
    have Q6 := Lib.hid (bthen Q5.out q)
    clear q
    go_wp2_with fail
    go_ret
    exact ⟨rfl, Q6.out⟩
  · have hn2 : (2000 : Int) < n := by omega
    clear HA HP hx hw
    go_enter Try.func3, Try.ntmps3
    go_wp2_with fail
    with_reducible refine (H0.out _ Q0.out).mono ?_
    rintro e w1 ⟨rfl, q⟩
    have Q1 := Lib.hid (bthen Q0.out q)
    clear q
    go_wp2_with fail
    with_reducible refine (H0.out _ Q1.out).mono ?_
    rintro e w2 ⟨rfl, q⟩
    have Q2 := Lib.hid (bthen Q1.out q)
    clear q
    go_wp2_with fail
    go_ret
    exact ⟨rfl, Q2.out⟩
end Go.Proofs.Ytkkomaohcijhnaa
namespace Go.Proofs.Ytkkomaohcijhnaa
open Go.ChangeShapes Go.WideShapes Go.ChangeAt Go.RowKit
theorem ownKnob_none : ownKnob Try.prog.godebug = none := by kernel_rfl
theorem laidOut_ok : laidOutB Try.prog = true := by kernel_rfl
theorem addr_of_cell {w : World} {x : Addr} {v : Value} (h : w.cell? x = some v) : x = ⟨x.block, x.off, none⟩ ∧ x.block < w.heap.size := by
  obtain ⟨b, o, s⟩ := x
  unfold World.cell? at h
  rcases Nat.lt_or_ge b w.heap.size with hb | hb
  · refine ⟨?_, hb⟩
    cases s with
    | none => rfl
    | some s =>
      simp only at h
      split at h
      · simp at h
      · cases h
  · simp only at h
    rw [Array.getElem?_eq_none hb] at h
    cases h
theorem add_plain (b o i : Nat) : (⟨b, o, none⟩ : Addr).add i = ⟨b, o + i, none⟩ := by unfold Addr.add; split <;> simp_all
theorem bs_opened {H : Type} {enc : TypeId × Value → H} {W : World} {base : Nat} {sp : Nat → Bool} {held : Bool} {a : Option Addr} {n c : Nat} {d : DataW H} {p : List MemPlace}
    (h : DataW.Trod enc Try.prog W base sp held 22 (.slice a n c) d p) : ∃ l, Bs W a n c l := by
  obtain ⟨fuel, hf⟩ := h
  rcases open_ints Try.underlying22 Try.underlying5 (by kernel_rfl) hf with ⟨hcs, _⟩ | ⟨x, l, cc, zs, hcs, _, hl, hm, hz, _, hcell, hwz⟩
  · simp [Value.cells] at hcs
    obtain ⟨rfl, rfl, rfl⟩ := hcs
    exact ⟨[], Bs.nil_ W⟩
  · simp [Value.cells] at hcs
    obtain ⟨rfl, rfl, rfl⟩ := hcs
    have hz' : n ≤ zs.length := by
      rw [hz]
      split <;> omega
    have hlen : ((zs.take n).map fun z => UInt8.ofNat z.toNat).length = n := by rw [List.length_map, List.length_take]; omega
    refine ⟨(zs.take n).map fun z => UInt8.ofNat z.toNat, hlen, hl, hm, fun hn => ?_⟩
    have h0 := hcell 0 (by omega)
    have e0 : x.add 0 = x := by unfold Addr.add; simp
    rw [e0] at h0
    obtain ⟨hx, hb⟩ := addr_of_cell h0
    refine ⟨x.block, x.off, by rw [← hx], hb, fun i hi => ?_⟩
    rw [hlen] at hi
    have hi' : i < zs.length := by omega
    have hc := hcell i hi'
    have e1 : x.add i = ⟨x.block, x.off + i, none⟩ := by have := add_plain x.block x.off i; rwa [← hx] at this
    rw [e1] at hc
    rw [hc]
    have hw := hwz _ (List.getElem_mem hi')
    have hbd := bounds_u8 hw
    have e2 : zs.getD i 0 = zs[i] := by rw [List.getD_eq_getElem?_getD, List.getElem?_eq_getElem hi']; rfl
    rw [e2, List.getElem_map, List.getElem_take]
    congr 2
    rw [UInt8.toNat_ofNat']
    omega
end Go.Proofs.Ytkkomaohcijhnaa
namespace Go.Proofs.Ytkkomaohcijhnaa
open Go.RowKit
set_option maxRecDepth 100000 in
set_option maxHeartbeats 8000000 in
theorem parts_walk {w : World} {a : Option Addr} {n c : Nat} {l : List UInt8} {cl nu : Int} (hx : Bs w a n c l)
    (HA : ∀ v : World, Below w.heap.size w v → Calls Try.prog 10 #[] v fun e w' => e = .returned (.bool true) ∧ Below v.heap.size v w')
    (HP : ∀ v : World, n ≤ 1000000 → Bs v a n c l → Below w.heap.size w v → Calls Try.prog 20 #[.slice a n c, .int .i64 cl, .int .i64 nu] v fun e w' => ∃ a' c', e = .returned (.tuple #[.slice a' (prtR l cl nu).els.length c', erV (prtR l cl nu).code (prtR l cl nu).off]) ∧ Ew w' a' (prtR l cl nu).els.length c' (prtR l cl nu).els ∧ Below v.heap.size v w') :
    Calls Try.prog 5 #[.slice a n c, .int .i64 cl, .int .i64 nu] w fun e w' => e = .returned (.bool true) ∧ Below w.heap.size w w' := by
  have H0 := Lib.hid HA
  have Q0 := Lib.hid (Below.refl w.heap.size w)
  have X0 := Lib.hid hx
  have hcm : n ≤ 9223372036854775807 := by have := hx.2.1; have := hx.2.2.1; unfold maxLen at this; omega
  by_cases hn : n ≤ 2000
  · have hn2 : ¬ (2000 : Int) < n := by omega
    have H1 := Lib.hid (fun v h q => HP v (by omega) h q)
    have H2 := Lib.hid (fun v (h : Bs v a n c l) => ref_parts_any h (by omega) cl nu)
    unfold ElsPost at H2
    clear HA HP hx
    generalize prtR l cl nu = R at *
    obtain ⟨es, C, O⟩ := R
    unfold erV at *
    dsimp only at H1 H2
    obtain ⟨m, hm⟩ : ∃ m, es.length = m := ⟨_, rfl⟩
    rw [hm] at H1 H2
    clear hm
    go_enter Try.func5, Try.ntmps5
    go_wp2_with fail
    with_reducible refine (H0.out _ Q0.out).mono ?_
    rintro e w1 ⟨rfl, q⟩
    have Q1 := Lib.hid (bthen Q0.out q)
    have X1 := Lib.hid (X0.out.below q)
    clear q
    go_wp2_with fail
    with_reducible refine (H1.out _ X1.out Q1.out).mono ?_
    rintro e w2 ⟨a2, c2, rfl, h2, q⟩
    have Q2 := Lib.hid (bthen Q1.out q)
    have X2 := Lib.hid (X1.out.below q)
    have E2 := Lib.hid h2
    clear q X1 Q1 h2
    obtain ⟨G, hG⟩ : ∃ G, w2.heap.size = G := ⟨_, rfl⟩
    have X3 := Lib.hid (X2.out.alloc (.cells #[.int .i64 C, .int .i64 O] 28))
    have E3 := Lib.hid (E2.out.alloc (.cells #[.int .i64 C, .int .i64 O] 28))
    have Q3 := Lib.hid (bal Q2.out (.cells #[.int .i64 C, .int .i64 O] 28))
    have K3 : Hid (Blk (w2.alloc (.cells #[.int .i64 C, .int .i64 O] 28)) G 28 #[.int .i64 C, .int .i64 O]) := by rw [← hG]; exact Blk.new _ _ _
    go_wp2_with fail
    generalize w2.alloc (.cells #[.int .i64 C, .int .i64 O] 28) = w3 at *
    clear hG X2 Q2 E2
    with_reducible refine (H2.out _ X3.out).mono ?_
    rintro e w4 ⟨a4, c4, rfl, h4, q⟩
    have Q4 := Lib.hid (bthen Q3.out q)
    have E4 := Lib.hid (E3.out.below q)
    have F4 := Lib.hid h4.ew
    have K4 := Lib.hid (K3.out.below q K3.out.lt)
    clear q X3 Q3 E3 K3 h4
    obtain ⟨M, hM⟩ : ∃ M, w4.heap.size = M := ⟨_, rfl⟩
    have lG : G < M := by rw [← hM]; exact K4.out.lt
    have E5 := Lib.hid (E4.out.alloc (.cells #[.int .i64 C, .int .i64 O] 28))
    have F5 := Lib.hid (F4.out.alloc (.cells #[.int .i64 C, .int .i64 O] 28))
    have Q5 := Lib.hid (bal Q4.out (.cells #[.int .i64 C, .int .i64 O] 28))
    have K5 := Lib.hid (K4.out.alloc (.cells #[.int .i64 C, .int .i64 O] 28))
    have L5 : Hid (Blk (w4.alloc (.cells #[.int .i64 C, .int .i64 O] 28)) M 28 #[.int .i64 C, .int .i64 O]) := by rw [← hM]; exact Blk.new _ _ _
    have HB := Lib.hid (els_self E5.out F5.out)
    go_wp2_with fail
    generalize w4.alloc (.cells #[.int .i64 C, .int .i64 O] 28) = w5 at *
    clear hM Q4 E4 F4 K4
    with_reducible refine (HB.out).mono ?_
    rintro e w6 ⟨rfl, k, rfl⟩
    obtain ⟨k0, k1, kl, kf⟩ := (K5.out.drewN k).cells2
    obtain ⟨l0, l1, ll, lf⟩ := (L5.out.drewN k).cells2
    have Q6 := Lib.hid (below_drewN Q5.out k)
    clear kf lf HB
    generalize w5.drewN k = w6 at *
    go_wp2_with fail
    go_ret
    exact ⟨rfl, Q6.out⟩
  · have hn2 : (2000 : Int) < n := by omega
    clear HA HP hx
    go_enter Try.func5, Try.ntmps5
    go_wp2_with fail
    with_reducible refine (H0.out _ Q0.out).mono ?_
    rintro e w1 ⟨rfl, q⟩
    have Q1 := Lib.hid (bthen Q0.out q)
    clear q
    go_wp2_with fail
    with_reducible refine (H0.out _ Q1.out).mono ?_
    rintro e w2 ⟨rfl, q⟩
    have Q2 := Lib.hid (bthen Q1.out q)
    clear q
    go_wp2_with fail
    go_ret
    exact ⟨rfl, Q2.out⟩
end Go.Proofs.Ytkkomaohcijhnaa
namespace Go.Proofs.Ytkkomaohcijhnaa
set_option maxRecDepth 100000
theorem one_code {l : List UInt8} (h : (oneR l).code = 0) : (rdNext l).h.code = 0 ∧ (rdNext l).rest = [] := by
  unfold oneR at h
  split at h
  · rename_i h1
    split at h
    · rename_i h2
      exact ⟨h1, List.eq_nil_of_length_eq_zero h2⟩
    · exact absurd h (by show ¬ (2 : Nat) = 0; decide)
  · rename_i h1
    exact absurd h h1
theorem next_app {l : List UInt8} (h : (oneR l).code = 0) (r : List UInt8) : (rdNext (l ++ r)).h.code = 0 ∧ elN (l ++ r) = l.length := by
  obtain ⟨h1, h2⟩ := one_code h
  obtain ⟨g1, g2, g3, g4⟩ := enc_of_next h1
  obtain ⟨_, hm⟩ := elN_enc h1
  rw [h2, List.append_nil] at g4
  have hn := rdNext_enc (k := (rdNext l).h.con) g1 g2 hm r
  have hl := encB_len (rdNext l).h.cls (rdNext l).h.num (rdNext l).h.con (rdNext l).cont
  rw [g4] at hn hl
  unfold elN
  rw [hn]
  refine ⟨rfl, ?_⟩
  show (lenOct (rdNext l).cont.length).length + 1 + (rdNext l).cont.length = l.length
  omega
theorem cat_cons (s : Sl) (r : List Sl) : cat (s :: r) = s.l ++ cat r := by simp [cat]
theorem cat_els : ∀ (ss : List Sl) (p : Nat), (∀ s ∈ ss, (oneR s.l).code = 0) → (rdEls (cat ss) p).code = 0 ∧ (rdEls (cat ss) p).els.length = ss.length
  | [], p, _ => by
    show (rdEls [] p).code = 0 ∧ _
    rw [show cat [] = [] from rfl, rdEls_nil]
    exact ⟨rfl, rfl⟩
  | s :: r, p, h => by
    have h1 := h s (List.mem_cons_self ..)
    obtain ⟨hc, he⟩ := next_app h1 (cat r)
    have hb := elN_bd hc
    rw [he] at hb
    have ih := cat_els r (p + s.l.length) (fun t ht => h t (List.mem_cons_of_mem _ ht))
    have hd : (s.l ++ cat r).drop (elN (s.l ++ cat r)) = cat r := by rw [he, List.drop_left]
    rw [cat_cons, rdEls_ok p (by omega) hc (by rw [hd, he]; exact ih.1)]
    refine ⟨rfl, ?_⟩
    rw [List.length_cons, hd, he, ih.2, List.length_cons]
theorem seq_one {l : List UInt8} (hl : l.length ≤ 2147483647) : oneR (encB 0 16 true l) = ⟨⟨0, 16, true, 0, (((lenOct l.length).length + 1 : Nat) : Int), ((encB 0 16 true l).length : Nat)⟩, 0, 0⟩ := by
  have hn := rdNext_enc (c := 0) (n := 16) (by omega) (by omega) true hl []
  rw [List.append_nil] at hn
  have hlen := encB_len 0 16 true l
  unfold oneR
  rw [hn, if_pos rfl]
  dsimp only
  rw [List.length_nil, if_pos rfl]
  show (⟨elOf _ 0, 0, 0⟩ : RO) = _
  unfold elOf
  dsimp only
  rw [show ((encB 0 16 true l).length : Int) = (((0 : Nat) : Int) + ((lenOct l.length).length + 1 : Nat) + (l.length : Nat)) by omega]
  simp
theorem seq_list {l : List UInt8} : lstR (encB 0 16 true l) (((lenOct l.length).length + 1 : Nat) : Int) ((encB 0 16 true l).length : Nat) = rdEls l ((lenOct l.length).length + 1) := by
  have hlen := encB_len 0 16 true l
  rw [lst_ok (by omega) (Nat.le_refl _), List.take_of_length_le (Nat.le_refl _)]
  have : encB 0 16 true l = (idByte 0 16 true :: lenOct l.length) ++ l := by unfold encB; simp
  rw [this, List.drop_left' (by simp)]
def allOne (ss : List Sl) : Bool := ss.all fun s => decide ((oneR s.l).code = 0)
theorem allOne_take {ss : List Sl} {j : Nat} (h : j < ss.length) : allOne (ss.take (j + 1)) = (allOne (ss.take j) && decide ((oneR ss[j].l).code = 0)) := by
  unfold allOne
  rw [List.take_succ_eq_append_getElem h, List.all_append]
  simp
theorem allOne_iff {ss : List Sl} : allOne ss = true ↔ ∀ s ∈ ss, (oneR s.l).code = 0 := by
  unfold allOne
  simp
theorem cat_tot {ss : List Sl} (h : ∀ s ∈ ss, s.l.length = s.n) : (cat ss).length = tot ss := by
  induction ss with
  | nil => rfl
  | cons s r ih =>
    rw [cat_cons, List.length_append, ih (fun t ht => h t (List.mem_cons_of_mem _ ht)), h s (List.mem_cons_self ..)]
    unfold tot
    simp
theorem tot_bd {ss : List Sl} {M : Nat} (h : ∀ s ∈ ss, s.n ≤ M) : ∀ j, tot (ss.take j) ≤ j * M
  | 0 => Nat.zero_le _
  | j + 1 => by
    have ih := tot_bd h j
    rw [Nat.succ_mul]
    rcases Nat.lt_or_ge j ss.length with hl | hl
    · rw [tot_take hl]
      have := h _ (List.getElem_mem hl)
      omega
    · rw [List.take_of_length_le (by omega)]
      rw [List.take_of_length_le hl] at ih
      omega
theorem Rw.lens {w : World} {a : Option Addr} {n c : Nat} {ss : List Sl} (h : Rw w a n c ss) : ∀ s ∈ ss, s.l.length = s.n := by
  intro s hs
  obtain ⟨i, hi, rfl⟩ := List.getElem_of_mem hs
  exact (h.2 i hi).len
end Go.Proofs.Ytkkomaohcijhnaa
namespace Go.Proofs.Ytkkomaohcijhnaa
open Go.ChangeShapes Go.WideShapes Go.ChangeAt Go.RowKit Go.Deep
section
variable {H : Type} {enc : TypeId × Value → H} {W : World} {base b0 : Nat} {sp : Nat → Bool} {held : Bool} {v : Value} {d : DataW H} {p : List MemPlace}
theorem pick_list {α : Type} {q : Nat → α → Prop} : ∀ n : Nat, (∀ i, i < n → ∃ v, q i v) → ∃ ts : List α, ts.length = n ∧ ∀ (i : Nat) (h : i < ts.length), q i ts[i] := by
  intro n
  induction n with
  | zero => intro _; exact ⟨[], rfl, fun i h => absurd h (by simp)⟩
  | succ n ih =>
    intro h
    obtain ⟨ts, h1, h2⟩ := ih (fun i hi => h i (by omega))
    obtain ⟨v, hv⟩ := h n (by omega)
    refine ⟨ts ++ [v], by simp [h1], fun i hi => ?_⟩
    rcases Nat.lt_or_ge i ts.length with hlt | hge
    · rw [List.getElem_append_left hlt]
      exact h2 i hlt
    · have : i = n := by simp at hi; omega
      subst this
      rw [List.getElem_append_right (by omega)]
      simpa [h1] using hv
theorem addr_flat {w : World} {x : Addr} {v : Value} (h : w.cell? x = some v) : x = ⟨x.block, x.off, none⟩ ∧ x.block < w.heap.size := by
  obtain ⟨b, o, s⟩ := x
  unfold World.cell? at h
  rcases Nat.lt_or_ge b w.heap.size with hb | hb
  · refine ⟨?_, hb⟩
    cases s with
    | none => rfl
    | some s =>
      simp only at h
      split at h
      · simp at h
      · cases h
  · simp only at h
    rw [Array.getElem?_eq_none hb] at h
    cases h
theorem add_flat (b o i : Nat) : (⟨b, o, none⟩ : Addr).add i = ⟨b, o + i, none⟩ := by unfold Addr.add; split <;> simp_all
theorem weightsAll_mem {H : Type} {P : Program} {e : TypeId} : ∀ {l : List (DataW H)} {d : DataW H}, d ∈ l → ∀ n ∈ d.weights P e, n ∈ DataW.weightsAll P e l
  | d' :: r, d, hd, n, hn => by
    simp only [DataW.weightsAll, List.mem_append]
    rcases List.mem_cons.1 hd with rfl | h
    · exact Or.inl hn
    · exact Or.inr (weightsAll_mem h n hn)
theorem sized_at {H : Type} {P : Program} {ts : List TypeId} {ds : List (DataW H)} (h : (DataW.weightsEach P ts ds).all (· ≤ reachBytes) = true) (j : Nat) {t : TypeId} {d : DataW H} (ht : ts[j]? = some t) (hd : ds[j]? = some d) : ∀ k ∈ d.weights P t, k ≤ reachBytes :=
  fun k hk => by simpa using List.all_eq_true.1 h _ (DataW.weights_mem_each ht hd k hk)
set_option maxRecDepth 100000 in
theorem rw_opened {a : Option Addr} {n c : Nat} (h : DataW.Trod enc Try.prog W base sp held 41 (.slice a n c) d p) (hw : ∀ k ∈ d.weights Try.prog 41, k ≤ reachBytes) : ∃ ss, Rw W a n c ss ∧ ∀ s ∈ ss, s.n ≤ 140737488351232 := by
  have ce : Try.prog.cellsOf 22 = 1 := by kernel_rfl
  have cb : Try.prog.bytesOf 5 = 1 := by kernel_rfl
  obtain ⟨fuel, hf⟩ := h
  rcases DataW.trod_slice Try.underlying41 hf with ⟨r, _⟩ | ⟨x, kn, kc, elems, rest, m, _, r, hdata, _, hle, hmx, hel, hat, _⟩
  · simp [Value.cells] at r
    obtain ⟨rfl, rfl, rfl⟩ := r
    exact ⟨[], Rw.nil_ W, fun s hs => absurd hs (by simp)⟩
  · simp [Value.cells] at r
    obtain ⟨rfl, rfl, rfl⟩ := r
    rw [ce] at hat
    have hd : d = .slice (elems.map (·.1)) (rest.map (·.1)) := by
      have := congrArg Prod.fst hdata
      exact this
    have hin : ∀ y ∈ elems, ∀ k ∈ y.1.weights Try.prog 22, k ≤ reachBytes := fun y hy k hk => by
      refine hw k ?_
      rw [hd]
      simp only [DataW.weights, Try.underlying41, List.mem_cons, List.mem_append]
      exact Or.inr (Or.inl (weightsAll_mem (List.mem_map.2 ⟨y, hy, rfl⟩) k hk))
    have form : ∀ (z : Value) (y : DataW H × List MemPlace), y ∈ elems → DataW.trod enc Try.prog W base sp held m 22 [z] = some y → ∃ s : Sl, z = .slice s.a s.n s.c ∧ Bs W s.a s.n s.c s.l ∧ s.n ≤ 140737488351232 := by
      intro z y hy hk
      rcases open_ints Try.underlying22 Try.underlying5 (by kernel_rfl) hk with ⟨hcs, _⟩ | ⟨a1, n1, c1, zs, hcs, _, hl1, _, hz1, hy1, _⟩
      · injection hcs with hcs
        subst hcs
        exact ⟨⟨none, 0, 0, []⟩, rfl, Bs.nil_ W, Nat.zero_le _⟩
      · injection hcs with hcs
        subst hcs
        obtain ⟨l, hb⟩ := bs_opened (d := y.1) (p := y.2) ⟨m, hk⟩
        refine ⟨⟨_, _, _, l⟩, rfl, hb, ?_⟩
        have hk2 := hin y hy (((lits .u8 (zs.take n1) : List (DataW H)).length + (lits .u8 (zs.drop n1) : List (DataW H)).length) * Try.prog.bytesOf 5) (by
          rw [hy1]
          simp [DataW.weights, Try.underlying22])
        have hlz : n1 ≤ zs.length := by rw [hz1]; split <;> omega
        rw [cb] at hk2
        simp only [lits, List.length_map, List.length_take, List.length_drop] at hk2
        unfold reachBytes at hk2
        show n1 ≤ _
        omega
    have hk : ∀ i, i < n → ∃ s : Sl, W.cell? (x.add i) = some (.slice s.a s.n s.c) ∧ Bs W s.a s.n s.c s.l ∧ s.n ≤ 140737488351232 := by
      intro i hi
      have hi' := hat i hi
      rw [Nat.mul_one, List.getElem?_eq_getElem (by omega)] at hi'
      obtain ⟨cs', g1, g2⟩ := Option.bind_eq_some_iff.1 hi'
      obtain ⟨_, hl1, hc1⟩ := World.cells?_some g1
      match cs', hl1 with
      | [z], _ =>
        obtain ⟨s, rfl, hb, hsn⟩ := form z _ (List.getElem_mem _) g2
        have := hc1 0 (by omega)
        have ez : (x.add i).add 0 = x.add i := by unfold Addr.add; simp
        rw [ez] at this
        exact ⟨s, by simpa using this, hb, hsn⟩
    obtain ⟨ss, hss, hall⟩ := pick_list n hk
    refine ⟨ss, ⟨⟨hss, hle, hmx, fun hpos => ?_⟩, fun i hi => (hall i hi).2.1⟩, fun s hs => ?_⟩
    · have h0 := (hall 0 (by omega)).1
      have ez : x.add 0 = x := by unfold Addr.add; simp
      rw [ez] at h0
      obtain ⟨hx, hb⟩ := addr_flat h0
      refine ⟨x.block, x.off, by rw [← hx], hb, fun i hi => ?_⟩
      have := (hall i hi).1
      have e1 : x.add i = ⟨x.block, x.off + i, none⟩ := by have := add_flat x.block x.off i; rwa [← hx] at this
      rwa [e1] at this
    · obtain ⟨i, hi, rfl⟩ := List.getElem_of_mem hs
      exact (hall i hi).2.2
set_option maxRecDepth 100000 in
theorem ew_opened {a : Option Addr} {n c : Nat} (h : DataW.Trod enc Try.prog W base sp held 33 (.slice a n c) d p) : ∃ es, Ew W a n c es := by
  have hC : Try.prog.cellsOf 25 = 6 := by kernel_rfl
  have hI : Try.prog.cellsOf 3 = 1 := by kernel_rfl
  have hO : Try.prog.cellsOf 4 = 1 := by kernel_rfl
  obtain ⟨fuel, hf⟩ := h
  rcases DataW.trod_slice Try.underlying33 hf with ⟨r, _⟩ | ⟨x, kn, kc, elems, rest, m, _, r, _, _, hle, hmx, hel, hat, _⟩
  · simp [Value.cells] at r
    obtain ⟨rfl, rfl, rfl⟩ := r
    exact ⟨[], Ew.nil_ W⟩
  · simp [Value.cells] at r
    obtain ⟨rfl, rfl, rfl⟩ := r
    rw [hC] at hat
    have form : ∀ (cs : List Value) (y : DataW H × List MemPlace), DataW.trod enc Try.prog W base sp held m 25 cs = some y → ∃ e : El, cs = elCs e := by
      intro cs y hk
      obtain ⟨xs, k, _, _, hsz, hlen, hg⟩ := DataW.trod_struct Try.underlying25 hk
      rw [hC] at hsz
      match cs, hsz with
      | [c0, c1, c2, c3, c4, c5], _ =>
        match xs, hlen with
        | [y0, y1, y2, y3, y4, y5], _ =>
          have g0 := hg 0 _ rfl
          have g1 := hg 1 _ rfl
          have g2 := hg 2 _ rfl
          have g3 := hg 3 _ rfl
          have g4 := hg 4 _ rfl
          have g5 := hg 5 _ rfl
          simp [hI, hO] at g0 g1 g2 g3 g4 g5
          obtain ⟨x0, e0, _⟩ := DataW.trod_int Try.underlying3 g0
          obtain ⟨x1, e1, _⟩ := DataW.trod_int Try.underlying3 g1
          obtain ⟨x2, e2, _⟩ := DataW.trod_bool Try.underlying4 g2
          obtain ⟨x3, e3, _⟩ := DataW.trod_int Try.underlying3 g3
          obtain ⟨x4, e4, _⟩ := DataW.trod_int Try.underlying3 g4
          obtain ⟨x5, e5, _⟩ := DataW.trod_int Try.underlying3 g5
          injection e0 with e0
          injection e1 with e1
          injection e2 with e2
          injection e3 with e3
          injection e4 with e4
          injection e5 with e5
          subst e0; subst e1; subst e2; subst e3; subst e4; subst e5
          exact ⟨⟨x0, x1, x2, x3, x4, x5⟩, rfl⟩
    have hk : ∀ i, i < n → ∃ e : El, ∀ j v, (elCs e)[j]? = some v → W.cell? ((x.add (i * 6)).add j) = some v := by
      intro i hi
      have hi' := hat i hi
      rw [List.getElem?_eq_getElem (by omega)] at hi'
      obtain ⟨cs', g1, g2⟩ := Option.bind_eq_some_iff.1 hi'
      obtain ⟨_, hl1, hc1⟩ := World.cells?_some g1
      obtain ⟨e, rfl⟩ := form cs' _ g2
      refine ⟨e, fun j v hj => ?_⟩
      have hj6 : j < 6 := by
        rcases Nat.lt_or_ge j 6 with h | h
        · exact h
        · rw [List.getElem?_eq_none (by rw [elCs_len]; exact h)] at hj; cases hj
      have := hc1 j hj6
      rw [hj] at this
      exact this
    obtain ⟨es, hes, hall⟩ := pick_list n hk
    refine ⟨es, hes, hle, hmx, fun hpos => ?_⟩
    have h0 := hall 0 (by omega) 0 _ rfl
    have ez : (x.add (0 * 6)).add 0 = x := by unfold Addr.add; simp
    rw [ez] at h0
    obtain ⟨hx, hb⟩ := addr_flat h0
    refine ⟨x.block, x.off, by rw [← hx], hb, fun i hi j v hj => ?_⟩
    have := hall i hi j v hj
    have e1 : (x.add (i * 6)).add j = ⟨x.block, x.off + i * 6 + j, none⟩ := by
      have h1 := add_flat x.block x.off (i * 6)
      rw [← hx] at h1
      rw [h1, add_flat]
    rwa [e1] at this
set_option maxRecDepth 100000 in
theorem pairE_opened (hv : Value.okWide Try.prog W .any b0 40 v) (h : DataW.Trod enc Try.prog W base sp held 40 v d p) : ∃ c n : Int, v = .agg #[.int .i64 c, .int .i64 n] := by
  have ce : Try.prog.cellsOf 3 = 1 := by kernel_rfl
  have ca : Try.prog.cellsOf 40 = 2 := by kernel_rfl
  obtain ⟨cs, rfl, hsz⟩ : ∃ cs : Array Value, v = .agg cs ∧ cs.size = Try.prog.cellsOf 40 := by
    simp only [Value.okWide, Try.underlying40] at hv
    obtain ⟨cs, h1, h2, _⟩ := hv
    exact ⟨cs, h1, h2⟩
  obtain ⟨x0, x1, rfl⟩ := Go.Joins.array2 (hsz.trans ca)
  obtain ⟨fuel, hf⟩ := h
  obtain ⟨xs, m, _, _, _, hl, hel⟩ := DataW.trod_array Try.underlying40 hf
  match xs, hl with
  | [y0, y1], _ =>
    have k0 := hel 0 (by omega)
    have k1 := hel 1 (by omega)
    rw [ce] at k0 k1
    obtain ⟨z0, e0, _⟩ := DataW.trod_int Try.underlying3 k0
    obtain ⟨z1, e1, _⟩ := DataW.trod_int Try.underlying3 k1
    simp [Value.cells] at e0 e1
    subst e0; subst e1
    exact ⟨_, _, rfl⟩
end
end Go.Proofs.Ytkkomaohcijhnaa
