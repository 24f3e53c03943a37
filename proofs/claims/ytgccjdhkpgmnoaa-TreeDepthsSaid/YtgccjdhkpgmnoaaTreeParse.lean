/-
  Contract of the program's parseAt.
-/
import Derived.Test.YtgccjdhkpgmnoaaTreeReadMath
import Derived.Test.YtgccjdhkpgmnoaaHead
import Derived.BigRegion
import Derived.Deep.AppendLies
namespace Go.Proofs.Ytgccjdhkpgmnoaa
open Go.RowKit

theorem failure_any (c o : Int) (w : World) : Calls Try.prog 37 #[.int .i64 c, .int .i64 o] w fun e w' => e = .returned (.tuple #[.agg #[.int .i64 0, .int .i64 0, .bool false, .slice none 0 0, .slice none 0 0], .int .i64 0, .agg #[.int .i64 c, .int .i64 o]]) ∧ Below w.heap.size w w' := by
  go_enter Try.func37, Try.ntmps37
  go_wp2_with fail
  exact bodyPost_ret (v := .tuple #[zeroN, .int .i64 0, .agg #[.int .i64 c, .int .i64 o]]) (by simp [results, Try.results37, go_sem, zeroN]) rfl ⟨by unfold zeroN; rfl, by repeat (first | with_reducible exact Below.refl _ _ | with_reducible refine bal ?_ _ | with_reducible refine below_at ?_ _ _ | with_reducible refine below_at1 ?_ _ _ | with_reducible refine below_draw ?_)⟩

theorem rdNext_head {l : List UInt8} (h : ¬ (rdHead l).code = 0) : (rdNext l).h.code = (rdHead l).code ∧ (rdNext l).h.off = (rdHead l).off := by
  unfold rdNext
  rw [if_neg h]
  exact ⟨rfl, rfl⟩
theorem rdNext_short {l : List UInt8} (h : (rdHead l).code = 0) (hs : l.length - (rdHead l).size < (rdHead l).len) : rdNext l = ⟨noHd 1 l.length, [], []⟩ := by
  unfold rdNext
  rw [if_pos h, if_pos hs]
theorem rdNext_full {l : List UInt8} (h : (rdHead l).code = 0) (hs : ¬ l.length - (rdHead l).size < (rdHead l).len) : (rdNext l).h = rdHead l ∧ (rdNext l).cont = (l.drop (rdHead l).size).take (rdHead l).len := by
  unfold rdNext
  rw [if_pos h, if_neg hs]
  exact ⟨rfl, rfl⟩
/-- b[:m:m] -/
theorem bs_take3 {w : World} {a : Option Addr} {n c : Nat} {l : List UInt8} (h : Bs w a n c l) {m : Nat} (hm : m ≤ n) : Bs w a m m (l.take m) :=
  ⟨by have := h.1; simp; omega, Nat.le_refl _, Nat.le_trans hm (Nat.le_trans h.2.1 h.2.2.1), (bs_take h hm).2.2.2⟩
theorem inner_drop {l : List UInt8} {st sz len p : Nat} : (l.take (st + sz + len)).drop (st + sz + p) = (((l.drop st).drop sz).take len).drop p := by
  rw [List.drop_drop, List.drop_take, List.drop_take, List.drop_drop]
  congr 1
  omega

theorem parseAt_zero {w : World} {s : Value} {st : Nat} : Calls Try.prog 28 #[s, .int .i64 st, .int .i64 16] w (ReadPost w (.err 5 0) st) := by
  have HF := Lib.hid failure_any
  go_enter Try.func28, Try.ntmps28
  go_wp2_with fail
  refine (HF.out _ _ _).mono ?_
  rintro e w2 ⟨rfl, q⟩
  have Z2 := Lib.hid (((Blk.new w 26 #[.int .i64 0, .int .i64 0, .bool false, .slice none 0 0, .slice none 0 0]).alloc (.cells #[.int .i64 0, .int .i64 0] 29)).below q (by simp; omega))
  have Z3 : Hid (Blk w2 (w.heap.size + 1) 29 #[.int .i64 0, .int .i64 0]) := by show Blk _ _ _ _; simpa using (((Blk.new (w.alloc (.cells #[.int .i64 0, .int .i64 0, .bool false, .slice none 0 0, .slice none 0 0] 26)) 29 #[.int .i64 0, .int .i64 0])).below q (by simp))
  have BB := Lib.hid (bthen (bal (bal (Below.refl _ w) _) _) q)
  obtain ⟨z20, z21, z22, z23, z24, hl2⟩ := five Z2.out
  have z30 := Z3.out.cell 0
  have z31 := Z3.out.cell 1
  have hl3 := Z3.out.lt
  have f2 := fun i => Z2.out.frozen i
  have f3 := fun i => Z3.out.frozen i
  simp only [List.getElem?_toArray, List.getElem?_cons_zero, List.getElem?_cons_succ] at z30 z31
  clear q
  go_wp2_with fail
  exact bodyPost_ret (v := .tuple #[zeroN, .int .i64 0, .agg #[.int .i64 5, .int .i64 st]]) (by simp [results, Try.results28, go_sem, zeroN, z20, z21, z22, z23, z24, z30, z31]) rfl ⟨rfl, by repeat (first | with_reducible exact BB.out | with_reducible refine bal ?_ _ | with_reducible refine below_at ?_ _ _ | with_reducible refine below_at1 ?_ _ _ | with_reducible refine below_draw ?_)⟩

set_option maxRecDepth 100000 in
set_option maxHeartbeats 4000000 in
theorem parseAt_any (D : Nat) : ∀ (w : World) (a : Option Addr) (n c : Nat) (l : List UInt8) (st ar : Nat), ar + D = 16 → n ≤ 100000 → st < n → Bs w a n c l →
    Calls Try.prog 28 #[.slice a n c, .int .i64 st, .int .i64 ar] w (ReadPost w (rdT D (l.drop st)) st) := by
  induction D with
  | zero =>
    intro w a n c l st ar hD _ _ _
    obtain rfl : ar = 16 := by omega
    rw [rdT]
    exact parseAt_zero
  | succ D ih =>
    intro w a n c l st ar hD hn hst hx
    have HX := Lib.hid hx
    have hcast : ((ar + 1 : Nat) : Int) = (ar : Int) + 1 := by omega
    have IH := Lib.hid (fun w a n c l st (hn : n ≤ 100000) (hst : st < n) hx => by have h := ih w a n c l st (ar + 1) (by omega) hn hst hx; rw [hcast] at h; exact h)
    have hl := hx.len
    have hnc := hx.2.1
    obtain ⟨b, off, _, rfl, hb, _⟩ := hx.at_ (i := 0) (by omega)
    have hdr := bs_drop hx (i := st) (by omega)
    rw [if_neg (by omega)] at hdr
    have HF := Lib.hid failure_any
    have HH := Lib.hid (fun W (h : Below w.heap.size w W) => readHeader_any (hdr.below h))
    have har : ((ar : Int) == 16) = false := by simp; omega
    have har1 : (ar : Int) ≤ 15 := by omega
    have hst1 : (st : Int) < n := by omega
    have hst2 : (st : Int) ≤ c := by omega
    have hst3 : (st : Int) ≤ n := by omega
    have hst0 : (0 : Int) ≤ st := by omega
    have hnb : (n : Int) ≤ 100000 := by omega
    have hnc1 : (n : Int) ≤ c := by omega
    have hcs : ¬ c = st := by omega
    have hll : (l.drop st).length = n - st := by rw [List.length_drop, hl]
    clear ih hx hdr hD hcast
    by_cases hq : (rdHead (l.drop st)).code = 0
    · have hsz := rdHead_size hq
      have hh : rdHead (l.drop st) = ⟨(rdHead (l.drop st)).cls, (rdHead (l.drop st)).num, (rdHead (l.drop st)).con, (rdHead (l.drop st)).len, (rdHead (l.drop st)).size, 0, 0⟩ := by
        obtain ⟨_, _, _, _, h5⟩ := hsz
        generalize rdHead (l.drop st) = h at *
        obtain ⟨a, b, c, d, e, f, g⟩ := h
        simp only at hq h5
        subst hq; subst h5
        rfl
      by_cases hsh : (l.drop st).length - (rdHead (l.drop st)).size < (rdHead (l.drop st)).len
      · have hN := rdNext_short hq hsh
        rw [rdT_bad (by rw [hN]; simp [noHd]), hN]
        rw [hh] at HH
        generalize (rdHead (l.drop st)).cls = CL at *
        generalize (rdHead (l.drop st)).num = NU at *
        generalize (rdHead (l.drop st)).con = KO at *
        generalize (rdHead (l.drop st)).len = LE at *
        generalize (rdHead (l.drop st)).size = SZ at *
        unfold hdV erV at HH
        simp only at HH
        rw [hll] at hsh hsz ⊢
        have i1 : (SZ : Int) ≤ 6 := by omega
        have i2 : (st : Int) + SZ ≤ n := by omega
        have i3 : (LE : Int) ≤ 2147483647 := by omega
        have i4 : (n : Int) - (st + SZ) < LE := by omega
        have hres : Hid (st + (n - st) = n) := by show _ = _; omega
        clear hq hh hN hsh hsz hll
        go_enter Try.func28, Try.ntmps28
        go_wp2_with fail
        refine (HH.out _ (bal (bal (Below.refl _ w) _) _)).mono ?_
        rintro e w2 ⟨rfl, q⟩
        have Z2 := Lib.hid (((Blk.new w 26 #[.int .i64 0, .int .i64 0, .bool false, .slice none 0 0, .slice none 0 0]).alloc (.cells #[.int .i64 0, .int .i64 0] 29)).below q (by simp; omega))
        have Z3 : Hid (Blk w2 (w.heap.size + 1) 29 #[.int .i64 0, .int .i64 0]) := by show Blk _ _ _ _; simpa using (((Blk.new (w.alloc (.cells #[.int .i64 0, .int .i64 0, .bool false, .slice none 0 0, .slice none 0 0] 26)) 29 #[.int .i64 0, .int .i64 0])).below q (by simp))
        have BB := Lib.hid (bthen (bal (bal (Below.refl _ w) _) _) q)
        clear q HH
        go_wp2_with fail
        refine (HF.out _ _ _).mono ?_
        rintro e w3 ⟨rfl, q⟩
        have Y2 := Lib.hid (((Z2.out.alloc _).alloc _).below q (by have := Z2.out.lt; simp; omega))
        have Y3 := Lib.hid (((Z3.out.alloc _).alloc _).below q (by have := Z3.out.lt; simp; omega))
        have BC := Lib.hid (bthen (bal (bal BB.out _) _) q)
        obtain ⟨z20, z21, z22, z23, z24, hl2⟩ := five Y2.out
        have z30 := Y3.out.cell 0
        have z31 := Y3.out.cell 1
        have hl3 := Y3.out.lt
        have f2 := fun i => Y2.out.frozen i
        have f3 := fun i => Y3.out.frozen i
        simp only [List.getElem?_toArray, List.getElem?_cons_zero, List.getElem?_cons_succ] at z30 z31
        clear q
        go_wp2_with fail
        exact bodyPost_ret (v := .tuple #[zeroN, .int .i64 0, .agg #[.int .i64 1, .int .i64 n]]) (by simp [results, Try.results28, go_sem, zeroN, z20, z21, z22, z23, z24, z30, z31]) rfl ⟨by show _ = Ending.returned (.tuple #[zeroN, .int .i64 0, erV 1 (st + (n - st))]); rw [hres.out]; rfl, by repeat (first | with_reducible exact BC.out | with_reducible refine bal ?_ _ | with_reducible refine below_at ?_ _ _ | with_reducible refine below_at1 ?_ _ _ | with_reducible refine below_draw ?_)⟩
      · have hNf := rdNext_full hq hsh
        have hNc : (rdNext (l.drop st)).h.code = 0 := by rw [hNf.1]; exact hq
        have hin := fun p => inner_drop (l := l) (st := st) (sz := (rdHead (l.drop st)).size) (len := (rdHead (l.drop st)).len) (p := p)
        rw [← hNf.2] at hin
        have hcl : (rdNext (l.drop st)).cont.length = (rdHead (l.drop st)).len := by
          rw [hNf.2, List.length_take, List.length_drop]
          omega
        rcases hkc : (rdHead (l.drop st)).con with _ | _
        · rw [rdT_prim hNc (by rw [hNf.1]; exact hkc), hNf.1, hcl]
          rw [hh, hkc] at HH
          generalize (rdNext (l.drop st)).cont = cont at *
          generalize (rdHead (l.drop st)).cls = CL at *
          generalize (rdHead (l.drop st)).num = NU at *
          generalize (rdHead (l.drop st)).len = LE at *
          generalize (rdHead (l.drop st)).size = SZ at *
          unfold hdV erV at HH
          simp only at HH
          rw [hll] at hsh hsz
          have i1 : (SZ : Int) ≤ 6 := by omega
          have i2 : (st : Int) + SZ + LE ≤ n := by omega
          have i3 : (LE : Int) ≤ 100000 := by omega
          have i6 : (0 : Int) ≤ LE := by omega
          have i7 : (0 : Int) ≤ SZ := by omega
          obtain ⟨BO, hBO⟩ : ∃ BO, Hid (st + SZ = BO) := ⟨_, rfl⟩
          obtain ⟨EN, hEN⟩ : ∃ EN, Hid (BO + LE = EN) := ⟨_, rfl⟩
          have j1 : (st : Int) + SZ = BO := by have := hBO.out; omega
          have j2 : (BO : Int) + LE = EN := by have := hEN.out; omega
          have j3 : EN ≤ n := by have := hEN.out; have := hBO.out; omega
          have j4 : (EN : Int) ≤ c := by omega
          have j5 : (BO : Int) ≤ EN := by omega
          have j6 : (EN : Int) ≤ n := by omega
          have j7 : (0 : Int) ≤ BO := by omega
          have hI := bs_take3 HX.out j3
          have hD0 := bs_drop hI (i := BO) (by omega)
          have hin0 := hin 0
          rw [List.drop_zero, Nat.add_zero, hBO.out, hEN.out] at hin0
          rw [hin0] at hD0
          have hlen : EN - BO = LE := by omega
          rw [hlen] at hD0
          have HD := Lib.hid hD0
          have hsum : Hid (st + (SZ + LE) = EN) := by show _ = _; have := hEN.out; have := hBO.out; omega
          clear hq hh hNf hsh hsz hll hNc hin hcl hkc hI hin0 hD0
          by_cases hz : LE = 0
          · have heq : EN = BO := by have := hEN.out; omega
            rw [if_pos heq] at HD
            have HCl := Lib.hid (fun W (h : Below w.heap.size w W) => clone_any (HD.out.below h) (by omega))
            subst hz
            subst heq
            clear hlen HD
            go_enter Try.func28, Try.ntmps28
            go_wp2_with fail
            refine (HH.out _ (bal (bal (Below.refl _ w) _) _)).mono ?_
            rintro e w2 ⟨rfl, q⟩
            have Z2 := Lib.hid (((Blk.new w 26 #[.int .i64 0, .int .i64 0, .bool false, .slice none 0 0, .slice none 0 0]).alloc (.cells #[.int .i64 0, .int .i64 0] 29)).below q (by simp; omega))
            have Z3 : Hid (Blk w2 (w.heap.size + 1) 29 #[.int .i64 0, .int .i64 0]) := by show Blk _ _ _ _; simpa using (((Blk.new (w.alloc (.cells #[.int .i64 0, .int .i64 0, .bool false, .slice none 0 0, .slice none 0 0] 26)) 29 #[.int .i64 0, .int .i64 0])).below q (by simp))
            have BB := Lib.hid (bthen (bal (bal (Below.refl _ w) _) _) q)
            have hl2 := Z2.out.lt
            have hl3 := Z3.out.lt
            clear q HH
            go_wp2_with fail
            have N4 : Hid (Blk (((w2.alloc (.cells #[.int .i64 CL, .int .i64 NU, .bool false, .int .i64 ((0 : Nat) : Int), .int .i64 SZ] 63)).alloc (.cells #[.int .i64 0, .int .i64 0] 29)).alloc (.cells #[.int .i64 CL, .int .i64 NU, .bool false, .slice none 0 0, .slice none 0 0] 26)) (w2.heap.size + 1 + 1) 26 #[.int .i64 CL, .int .i64 NU, .bool false, .slice none 0 0, .slice none 0 0]) := by
              have := (Blk.new ((w2.alloc (.cells #[.int .i64 CL, .int .i64 NU, .bool false, .int .i64 ((0 : Nat) : Int), .int .i64 SZ] 63)).alloc (.cells #[.int .i64 0, .int .i64 0] 29)) 26 #[.int .i64 CL, .int .i64 NU, .bool false, .slice none 0 0, .slice none 0 0])
              show Blk _ _ _ _
              simpa using this
            have Q4 := Lib.hid (bal (bal (bal BB.out (.cells #[.int .i64 CL, .int .i64 NU, .bool false, .int .i64 ((0 : Nat) : Int), .int .i64 SZ] 63)) (.cells #[.int .i64 0, .int .i64 0] 29)) (.cells #[.int .i64 CL, .int .i64 NU, .bool false, .slice none 0 0, .slice none 0 0] 26))
            have G4 := Lib.hid (((Z2.out.alloc (.cells #[.int .i64 CL, .int .i64 NU, .bool false, .int .i64 ((0 : Nat) : Int), .int .i64 SZ] 63)).alloc (.cells #[.int .i64 0, .int .i64 0] 29)).alloc (.cells #[.int .i64 CL, .int .i64 NU, .bool false, .slice none 0 0, .slice none 0 0] 26))
            have E4 := Lib.hid (((Z3.out.alloc (.cells #[.int .i64 CL, .int .i64 NU, .bool false, .int .i64 ((0 : Nat) : Int), .int .i64 SZ] 63)).alloc (.cells #[.int .i64 0, .int .i64 0] 29)).alloc (.cells #[.int .i64 CL, .int .i64 NU, .bool false, .slice none 0 0, .slice none 0 0] 26))
            clear Z2 Z3 BB
            generalize (((w2.alloc (.cells #[.int .i64 CL, .int .i64 NU, .bool false, .int .i64 ((0 : Nat) : Int), .int .i64 SZ] 63)).alloc (.cells #[.int .i64 0, .int .i64 0] 29)).alloc (.cells #[.int .i64 CL, .int .i64 NU, .bool false, .slice none 0 0, .slice none 0 0] 26)) = w4 at *
            obtain ⟨GN, hGN⟩ : ∃ GN, Hid (w2.heap.size + 1 + 1 = GN) := ⟨_, rfl⟩
            rw [hGN.out] at N4 ⊢
            have hgA : w.heap.size + 1 < GN := by have := hGN.out; omega
            refine (HCl.out _ Q4.out).mono ?_
            rintro e w5 ⟨a5, c5, rfl, ho, q⟩
            have N5 := Lib.hid (N4.out.below q N4.out.lt)
            have G5 := Lib.hid (G4.out.below q G4.out.lt)
            have E5 := Lib.hid (E4.out.below q E4.out.lt)
            have Q5 := Lib.hid (bthen Q4.out q)
            have hq5 := N4.out.lt
            have O5 := Lib.hid (ho.more (B' := GN + 1) (by omega))
            clear ho q N4 G4 E4 Q4 HCl hq5
            obtain ⟨n0, n1, n2, n3, n4, nl⟩ := five N5.out
            have nf := fun i => N5.out.frozen i
            obtain ⟨z20, z21, z22, z23, z24, hl2'⟩ := five G5.out
            have z30 := E5.out.cell 0
            have z31 := E5.out.cell 1
            have hl3' := E5.out.lt
            have f2 := fun i => G5.out.frozen i
            have f3 := fun i => E5.out.frozen i
            simp only [List.getElem?_toArray, List.getElem?_cons_zero, List.getElem?_cons_succ] at z30 z31
            have hne1 : GN ≠ w.heap.size := by omega
            have hne2 : GN ≠ w.heap.size + 1 := by omega
            clear hl2 hl3
            go_wp2_with fail
            refine bodyPost_ret (v := .tuple #[.agg #[.int .i64 CL, .int .i64 NU, .bool false, .slice a5 0 c5, .slice none 0 0], .int .i64 EN, .agg #[.int .i64 0, .int .i64 0]]) (by simp [results, Try.results28, go_sem, z20, z21, z22, z23, z24, z30, z31]) rfl ?_
            have hNd : NdCs (w5.setCell ⟨GN, 3, none⟩ (.slice a5 0 c5)) (fun b => w.heap.size + 2 ≤ b) [.int .i64 CL, .int .i64 NU, .bool false, .slice a5 0 c5, .slice none 0 0] (.node CL NU false cont []) :=
              ⟨a5, 0, c5, none, 0, 0, rfl, ⟨(O5.out.far (p := ⟨GN, 3, none⟩) (fun x hx => by have := (O5.out.base x hx).1; simp; omega) _).bs, fun _ x hx => by have := (O5.out.base x hx).1; omega⟩, Kds.nil_ _ _⟩
            have hS := read_stored (B := w.heap.size) (u0 := .int .i64 CL) (u1 := .int .i64 NU) (u2 := .bool false) (u3 := .slice a5 0 c5) (u4 := .slice none 0 0) (u5 := .int .i64 0) (u6 := .int .i64 0) hNd (Q5.out.setCell (p := ⟨GN, 3, none⟩) (by simp; omega) _)
            exact ⟨_, by rw [hsum.out]; rfl, hS.1, hS.2⟩
          · rw [if_neg (by have := hEN.out; omega)] at HD
            have HCl := Lib.hid (fun W (h : Below w.heap.size w W) => clone_any (HD.out.below h) (by omega))
            clear HD
            go_enter Try.func28, Try.ntmps28
            go_wp2_with fail
            refine (HH.out _ (bal (bal (Below.refl _ w) _) _)).mono ?_
            rintro e w2 ⟨rfl, q⟩
            have Z2 := Lib.hid (((Blk.new w 26 #[.int .i64 0, .int .i64 0, .bool false, .slice none 0 0, .slice none 0 0]).alloc (.cells #[.int .i64 0, .int .i64 0] 29)).below q (by simp; omega))
            have Z3 : Hid (Blk w2 (w.heap.size + 1) 29 #[.int .i64 0, .int .i64 0]) := by show Blk _ _ _ _; simpa using (((Blk.new (w.alloc (.cells #[.int .i64 0, .int .i64 0, .bool false, .slice none 0 0, .slice none 0 0] 26)) 29 #[.int .i64 0, .int .i64 0])).below q (by simp))
            have BB := Lib.hid (bthen (bal (bal (Below.refl _ w) _) _) q)
            have hl2 := Z2.out.lt
            have hl3 := Z3.out.lt
            clear q HH
            go_wp2_with fail
            have N4 : Hid (Blk (((w2.alloc (.cells #[.int .i64 CL, .int .i64 NU, .bool false, .int .i64 LE, .int .i64 SZ] 63)).alloc (.cells #[.int .i64 0, .int .i64 0] 29)).alloc (.cells #[.int .i64 CL, .int .i64 NU, .bool false, .slice none 0 0, .slice none 0 0] 26)) (w2.heap.size + 1 + 1) 26 #[.int .i64 CL, .int .i64 NU, .bool false, .slice none 0 0, .slice none 0 0]) := by
              have := (Blk.new ((w2.alloc (.cells #[.int .i64 CL, .int .i64 NU, .bool false, .int .i64 LE, .int .i64 SZ] 63)).alloc (.cells #[.int .i64 0, .int .i64 0] 29)) 26 #[.int .i64 CL, .int .i64 NU, .bool false, .slice none 0 0, .slice none 0 0])
              show Blk _ _ _ _
              simpa using this
            have Q4 := Lib.hid (bal (bal (bal BB.out (.cells #[.int .i64 CL, .int .i64 NU, .bool false, .int .i64 LE, .int .i64 SZ] 63)) (.cells #[.int .i64 0, .int .i64 0] 29)) (.cells #[.int .i64 CL, .int .i64 NU, .bool false, .slice none 0 0, .slice none 0 0] 26))
            have G4 := Lib.hid (((Z2.out.alloc (.cells #[.int .i64 CL, .int .i64 NU, .bool false, .int .i64 LE, .int .i64 SZ] 63)).alloc (.cells #[.int .i64 0, .int .i64 0] 29)).alloc (.cells #[.int .i64 CL, .int .i64 NU, .bool false, .slice none 0 0, .slice none 0 0] 26))
            have E4 := Lib.hid (((Z3.out.alloc (.cells #[.int .i64 CL, .int .i64 NU, .bool false, .int .i64 LE, .int .i64 SZ] 63)).alloc (.cells #[.int .i64 0, .int .i64 0] 29)).alloc (.cells #[.int .i64 CL, .int .i64 NU, .bool false, .slice none 0 0, .slice none 0 0] 26))
            clear Z2 Z3 BB
            generalize (((w2.alloc (.cells #[.int .i64 CL, .int .i64 NU, .bool false, .int .i64 LE, .int .i64 SZ] 63)).alloc (.cells #[.int .i64 0, .int .i64 0] 29)).alloc (.cells #[.int .i64 CL, .int .i64 NU, .bool false, .slice none 0 0, .slice none 0 0] 26)) = w4 at *
            obtain ⟨GN, hGN⟩ : ∃ GN, Hid (w2.heap.size + 1 + 1 = GN) := ⟨_, rfl⟩
            rw [hGN.out] at N4 ⊢
            have hgA : w.heap.size + 1 < GN := by have := hGN.out; omega
            refine (HCl.out _ Q4.out).mono ?_
            rintro e w5 ⟨a5, c5, rfl, ho, q⟩
            have N5 := Lib.hid (N4.out.below q N4.out.lt)
            have G5 := Lib.hid (G4.out.below q G4.out.lt)
            have E5 := Lib.hid (E4.out.below q E4.out.lt)
            have Q5 := Lib.hid (bthen Q4.out q)
            have hq5 := N4.out.lt
            have O5 := Lib.hid (ho.more (B' := GN + 1) (by omega))
            clear ho q N4 G4 E4 Q4 HCl hq5
            obtain ⟨n0, n1, n2, n3, n4, nl⟩ := five N5.out
            have nf := fun i => N5.out.frozen i
            obtain ⟨z20, z21, z22, z23, z24, hl2'⟩ := five G5.out
            have z30 := E5.out.cell 0
            have z31 := E5.out.cell 1
            have hl3' := E5.out.lt
            have f2 := fun i => G5.out.frozen i
            have f3 := fun i => E5.out.frozen i
            simp only [List.getElem?_toArray, List.getElem?_cons_zero, List.getElem?_cons_succ] at z30 z31
            have hne1 : GN ≠ w.heap.size := by omega
            have hne2 : GN ≠ w.heap.size + 1 := by omega
            clear hl2 hl3
            go_wp2_with fail
            refine bodyPost_ret (v := .tuple #[.agg #[.int .i64 CL, .int .i64 NU, .bool false, .slice a5 LE c5, .slice none 0 0], .int .i64 EN, .agg #[.int .i64 0, .int .i64 0]]) (by simp [results, Try.results28, go_sem, z20, z21, z22, z23, z24, z30, z31]) rfl ?_
            have hNd : NdCs (w5.setCell ⟨GN, 3, none⟩ (.slice a5 LE c5)) (fun b => w.heap.size + 2 ≤ b) [.int .i64 CL, .int .i64 NU, .bool false, .slice a5 LE c5, .slice none 0 0] (.node CL NU false cont []) :=
              ⟨a5, LE, c5, none, 0, 0, rfl, ⟨(O5.out.far (p := ⟨GN, 3, none⟩) (fun x hx => by have := (O5.out.base x hx).1; simp; omega) _).bs, fun _ x hx => by have := (O5.out.base x hx).1; omega⟩, Kds.nil_ _ _⟩
            have hS := read_stored (B := w.heap.size) (u0 := .int .i64 CL) (u1 := .int .i64 NU) (u2 := .bool false) (u3 := .slice a5 LE c5) (u4 := .slice none 0 0) (u5 := .int .i64 0) (u6 := .int .i64 0) hNd (Q5.out.setCell (p := ⟨GN, 3, none⟩) (by simp; omega) _)
            exact ⟨_, by rw [hsum.out]; rfl, hS.1, hS.2⟩
        · have hcon : (rdNext (l.drop st)).h.con = true := by rw [hNf.1]; exact hkc
          obtain ⟨RKM, hRK⟩ : ∃ r, Hid (rdKids (rdT D) (rdNext (l.drop st)).cont.length (rdNext (l.drop st)).cont (rdNext (l.drop st)).h.size = r) := ⟨_, rfl⟩
          have HOK := Lib.hid (fun ts (h : RKM = .ok ts) => rdT_con_ok hNc hcon (hRK.out.trans h))
          have HER := Lib.hid (fun c o (h : RKM = .err c o) => rdT_con_err hNc hcon (hRK.out.trans h))
          rw [hNf.1, hcl] at HOK hRK
          rw [hh, hkc] at HH
          generalize rdT (D + 1) (l.drop st) = RES at *
          generalize (rdNext (l.drop st)).cont = cont at *
          generalize (rdHead (l.drop st)).cls = CL at *
          generalize (rdHead (l.drop st)).num = NU at *
          generalize (rdHead (l.drop st)).len = LE at *
          generalize (rdHead (l.drop st)).size = SZ at *
          unfold hdV erV at HH
          simp only at HH
          rw [hll] at hsh hsz
          have i1 : (SZ : Int) ≤ 6 := by omega
          have i2 : (st : Int) + SZ + LE ≤ n := by omega
          have i3 : (LE : Int) ≤ 100000 := by omega
          have i6 : (0 : Int) ≤ LE := by omega
          have i7 : (0 : Int) ≤ SZ := by omega
          obtain ⟨BO, hBO⟩ : ∃ BO, Hid (st + SZ = BO) := ⟨_, rfl⟩
          obtain ⟨EN, hEN⟩ : ∃ EN, Hid (BO + LE = EN) := ⟨_, rfl⟩
          have j1 : (st : Int) + SZ = BO := by have := hBO.out; omega
          have j2 : (BO : Int) + LE = EN := by have := hEN.out; omega
          have j3 : EN ≤ n := by have := hEN.out; have := hBO.out; omega
          have j4 : (EN : Int) ≤ c := by omega
          have j5 : (BO : Int) ≤ EN := by omega
          have j6 : (EN : Int) ≤ n := by omega
          have j7 : (0 : Int) ≤ BO := by omega
          have HI0 := Lib.hid (bs_take3 HX.out j3)
          have HIN : Hid (∀ p, (l.take EN).drop (BO + p) = cont.drop p) := fun p => by rw [← hEN.out, ← hBO.out]; exact hin p
          have hM : Hid (cont.length = LE) := hcl
          have hLIM := Lib.hid (fun p => rdT_lim D (cont.drop p))
          have hsum : Hid (st + (SZ + LE) = EN) := by show _ = _; have := hEN.out; have := hBO.out; omega
          clear hq hh hNf hsh hsz hll hNc hin hcl hkc hcon
          go_enter Try.func28, Try.ntmps28
          go_wp2_with fail
          refine (HH.out _ (bal (bal (Below.refl _ w) _) _)).mono ?_
          rintro e w2 ⟨rfl, q⟩
          have Z2 := Lib.hid (((Blk.new w 26 #[.int .i64 0, .int .i64 0, .bool false, .slice none 0 0, .slice none 0 0]).alloc (.cells #[.int .i64 0, .int .i64 0] 29)).below q (by simp; omega))
          have Z3 : Hid (Blk w2 (w.heap.size + 1) 29 #[.int .i64 0, .int .i64 0]) := by show Blk _ _ _ _; simpa using (((Blk.new (w.alloc (.cells #[.int .i64 0, .int .i64 0, .bool false, .slice none 0 0, .slice none 0 0] 26)) 29 #[.int .i64 0, .int .i64 0])).below q (by simp))
          have BB := Lib.hid (bthen (bal (bal (Below.refl _ w) _) _) q)
          have hl2 := Z2.out.lt
          have hl3 := Z3.out.lt
          clear q HH
          go_wp2_with fail
          have N4 : Hid (Blk (((w2.alloc (.cells #[.int .i64 CL, .int .i64 NU, .bool true, .int .i64 LE, .int .i64 SZ] 63)).alloc (.cells #[.int .i64 0, .int .i64 0] 29)).alloc (.cells #[.int .i64 CL, .int .i64 NU, .bool true, .slice none 0 0, .slice none 0 0] 26)) (w2.heap.size + 1 + 1) 26 #[.int .i64 CL, .int .i64 NU, .bool true, .slice none 0 0, .slice none 0 0]) := by
            have := (Blk.new ((w2.alloc (.cells #[.int .i64 CL, .int .i64 NU, .bool true, .int .i64 LE, .int .i64 SZ] 63)).alloc (.cells #[.int .i64 0, .int .i64 0] 29)) 26 #[.int .i64 CL, .int .i64 NU, .bool true, .slice none 0 0, .slice none 0 0])
            show Blk _ _ _ _
            simpa using this
          have Q4 := Lib.hid (bal (bal (bal BB.out (.cells #[.int .i64 CL, .int .i64 NU, .bool true, .int .i64 LE, .int .i64 SZ] 63)) (.cells #[.int .i64 0, .int .i64 0] 29)) (.cells #[.int .i64 CL, .int .i64 NU, .bool true, .slice none 0 0, .slice none 0 0] 26))
          have G4 := Lib.hid (((Z2.out.alloc (.cells #[.int .i64 CL, .int .i64 NU, .bool true, .int .i64 LE, .int .i64 SZ] 63)).alloc (.cells #[.int .i64 0, .int .i64 0] 29)).alloc (.cells #[.int .i64 CL, .int .i64 NU, .bool true, .slice none 0 0, .slice none 0 0] 26))
          have E4 := Lib.hid (((Z3.out.alloc (.cells #[.int .i64 CL, .int .i64 NU, .bool true, .int .i64 LE, .int .i64 SZ] 63)).alloc (.cells #[.int .i64 0, .int .i64 0] 29)).alloc (.cells #[.int .i64 CL, .int .i64 NU, .bool true, .slice none 0 0, .slice none 0 0] 26))
          clear Z2 Z3 BB
          generalize (((w2.alloc (.cells #[.int .i64 CL, .int .i64 NU, .bool true, .int .i64 LE, .int .i64 SZ] 63)).alloc (.cells #[.int .i64 0, .int .i64 0] 29)).alloc (.cells #[.int .i64 CL, .int .i64 NU, .bool true, .slice none 0 0, .slice none 0 0] 26)) = w4 at *
          obtain ⟨GN, hGN⟩ : ∃ GN, Hid (w2.heap.size + 1 + 1 = GN) := ⟨_, rfl⟩
          rw [hGN.out] at N4 ⊢
          have hgA : w.heap.size + 1 < GN := by have := hGN.out; omega
          have hs4 : GN + 1 ≤ w4.heap.size := N4.out.lt
          clear hl2 hl3
          go_loopw [16] (fun i wr => ∃ (P p m : Nat) (ts : List Tree) (ka : Option Addr) (kc : Nat), i = .int .i64 P ∧ BO + p = P ∧ p ≤ LE ∧ LE - p ≤ m ∧ RK.app ts (rdKids (rdT D) m (cont.drop p) (SZ + p)) = RKM ∧ OwnN wr (GN + 1) 26 (.slice ka ts.length kc) ts ∧ ts.length ≤ p ∧
            Blk wr GN 26 #[.int .i64 CL, .int .i64 NU, .bool true, .slice none 0 0, .slice ka ts.length kc] ∧
            Blk wr w.heap.size 26 #[.int .i64 0, .int .i64 0, .bool false, .slice none 0 0, .slice none 0 0] ∧ Blk wr (w.heap.size + 1) 29 #[.int .i64 0, .int .i64 0] ∧ Below w.heap.size w wr) (fun i _ => EN - (intOf i).toNat)
          case atStart => exact ⟨BO, 0, LE, [], none, 0, rfl, rfl, Nat.zero_le _, by omega, by rw [app_nil, List.drop_zero, Nat.add_zero]; exact hRK.out, OwnN.nil_ _ _ _, Nat.le_refl _, N4.out, G4.out, E4.out, Q4.out⟩
          case round =>
            obtain ⟨P, p, m, ts, ka, kc, rfl, hPp, hp, hm, hAp, hOw, htp, hN, hG, hE, hQ⟩ := hrel
            have hka := row_lt hOw
            have AP := Lib.hid hAp
            have OW := Lib.hid hOw
            have BN := Lib.hid hN
            have BG := Lib.hid hG
            have BE := Lib.hid hE
            have Q := Lib.hid hQ
            have KA := Lib.hid hka.2
            have HPp := Lib.hid hPp
            have hEN2 := hEN.out
            clear hAp hOw hN hG hE hQ hka N4 G4 E4 Q4 hs4
            by_cases hlt : p < LE
            · have HI := Lib.hid (IH.out wr _ _ _ _ P (by omega) (by omega) (HI0.out.below Q.out))
              have hdp := HIN.out p
              rw [hPp] at hdp
              rw [hdp] at HI
              have hlim := hLIM.out p
              have hne : cont.drop p ≠ [] := by
                intro h
                have h1 := congrArg List.length h
                have := hM.out
                simp at h1
                omega
              obtain ⟨m, rfl⟩ : ∃ m', m = m' + 1 := ⟨m - 1, by omega⟩
              have hlt' : (P : Int) < EN := by omega
              have hp0 : (0 : Int) ≤ P := by omega
              rcases hr : rdT D (cont.drop p) with ⟨t, s⟩ | ⟨c', o⟩
              · rw [hr] at hlim HI
                obtain ⟨hs1, hs2, _, _⟩ := hlim
                have hstep := rdKids_ok_step (m := m) (p := SZ + p) hne hr
                have AP2 := AP.out
                rw [hstep, app_cons, List.drop_drop, Nat.add_assoc] at AP2
                have hsM : p + s ≤ LE := by have := hM.out; rw [List.length_drop] at hs1; omega
                have AP3 := Lib.hid AP2
                clear hstep hne hr AP2 AP hs1 hdp
                unfold ReadPost erV at HI
                simp only at HI
                obtain ⟨PS, hPS⟩ : ∃ PS, Hid (P + s = PS) := ⟨_, rfl⟩
                rw [hPS.out] at HI
                obtain ⟨i0, hi, hz0, hz1, hz2⟩ := info_parts5 info_node
                go_wp2_with fail
                refine HI.out.mono ?_
                rintro e w5 ⟨cs, rfl, hnd, q⟩
                cases t with
                | node c' n' k' l' ks' =>
                obtain ⟨a', m', d', ka', kn', kc', rfl, _⟩ := hnd.parts
                have N5 := Lib.hid (BN.out.below q BN.out.lt)
                have G5 := Lib.hid (BG.out.below q BG.out.lt)
                have E5 := Lib.hid (BE.out.below q BE.out.lt)
                have Q5 := Lib.hid (bthen Q.out q)
                have hsz := q.size
                have hNs := BN.out.lt
                have BW := Lib.hid (bal (bal (bal (Below.refl _ w5) (.cells #[.int .i64 c', .int .i64 n', .bool k', .slice a' m' d', .slice ka' kn' kc'] 26)) (.cells #[.int .i64 0, .int .i64 0] 29)) (.cells #[.int .i64 c', .int .i64 n', .bool k', .slice a' m' d', .slice ka' kn' kc'] 26))
                obtain ⟨css, hrow, hnodes⟩ := ((OW.out.below q).below BW.out).nodes
                have ND := Lib.hid ((hnd.off (a := ka) (n := ts.length) (c := kc) (B := GN + 1) (by omega) (fun x hx => (KA.out x hx).2)).below BW.out)
                have HROW := Lib.hid hrow
                have HNS := Lib.hid hnodes
                have NB : Hid (Blk (((w5.alloc (.cells #[.int .i64 c', .int .i64 n', .bool k', .slice a' m' d', .slice ka' kn' kc'] 26)).alloc (.cells #[.int .i64 0, .int .i64 0] 29)).alloc (.cells #[.int .i64 c', .int .i64 n', .bool k', .slice a' m' d', .slice ka' kn' kc'] 26)) (w5.heap.size + 1 + 1) 26 #[.int .i64 c', .int .i64 n', .bool k', .slice a' m' d', .slice ka' kn' kc']) := by
                  have := Blk.new ((w5.alloc (.cells #[.int .i64 c', .int .i64 n', .bool k', .slice a' m' d', .slice ka' kn' kc'] 26)).alloc (.cells #[.int .i64 0, .int .i64 0] 29)) 26 #[.int .i64 c', .int .i64 n', .bool k', .slice a' m' d', .slice ka' kn' kc']
                  show Blk _ _ _ _
                  simpa using this
                obtain ⟨n0, n1, n2, n3, n4, nl⟩ := five N5.out
                clear q hnd hrow hnodes BN BG BE OW HI
                go_wp2_with (at_builtin; go_must (refine wpList_append_lies _ rfl _ _ 24 rfl (GN + 1) 26 i0 zeroN 5 72 Try.underlying24 hi hz0 hz1 hz2 rfl (by decide) (.slice ka ts.length kc) ts.length (cellsN css) rfl HROW.out ⟨w5.heap.size + 1 + 1, 0, none⟩ 1 1 [.int .i64 c', .int .i64 n', .bool k', .slice a' m' d', .slice ka' kn' kc'] rfl rfl (World.news_of_block NB.out) ND.out.one.2 (by decide) ?b1 ?b2 ?b3 (w5.heap.size + 1 + 1 + 1) (by simp) ?_))
                case b1 => unfold maxLen; omega
                case b2 => omega
                case b3 => simp; omega
                intro g cap w6 hown6 hg6 hat hlt6
                have D6 : Hid (Below (GN + 1) _ w6) := row_below hg6 (fun x hx => (KA.out x hx).1) (by simp; omega)
                have O6 := Lib.hid (ownN_grown HNS.out ND.out hown6 hg6 (hat.imp id (by rintro rfl; simp)))
                have N6 := Lib.hid ((((N5.out.alloc _).alloc _).alloc _).below D6.out (by omega))
                have G6 := Lib.hid ((((G5.out.alloc _).alloc _).alloc _).below D6.out (by omega))
                have E6 := Lib.hid ((((E5.out.alloc _).alloc _).alloc _).below D6.out (by omega))
                have Q6 : Hid (Below w.heap.size w w6) := (bal (bal (bal Q5.out _) _) _).trans (D6.out.mono (by omega))
                clear hown6 hg6 hat D6 HROW HNS ND NB N5 G5 E5 Q5 BW n0 n1 n2 n3 n4 nl
                obtain ⟨n0, n1, n2, n3, n4, nl⟩ := five N6.out
                have nf := fun i => N6.out.frozen i
                go_wp2_with fail
                go_roundw
                case rel =>
                  have hlen : (ts ++ [Tree.node c' n' k' l' ks']).length = ts.length + 1 := by simp
                  refine ⟨PS, p + s, m, ts ++ [.node c' n' k' l' ks'], some ⟨g, 0, none⟩, cap, rfl, by rw [← Nat.add_assoc, HPp.out]; exact hPS.out, hsM, by omega, AP3.out, ?_, by rw [hlen]; omega, ?_, G6.out.far (by simp; omega) _, E6.out.far (by simp; omega) _, Q6.out.setCell (by simp; omega) _⟩
                  · rw [hlen]
                    exact O6.out.far (p := ⟨GN, 4, none⟩) (by simp) _
                  · rw [hlen]
                    exact N6.out.set_ 4 _
                case measure => have := hPS.out; simp [intOf]; omega
              · rw [hr] at hlim HI
                obtain ⟨ho1, hc1⟩ := hlim
                have hstep := rdKids_err_step (m := m) (p := SZ + p) hne hr
                have AP2 := AP.out
                rw [hstep] at AP2
                have hres := HER.out _ _ AP2.symm
                have hob : (o : Int) ≤ 100000 := by have := hM.out; rw [List.length_drop] at ho1; omega
                have hC : ((c' : Int) == 0) = false := by simp; omega
                have hC2 : ((c' : Int) != 0) = true := by simp; omega
                subst hres
                obtain ⟨PO, hPO⟩ : ∃ PO, Hid (P + o = PO) := ⟨_, rfl⟩
                unfold ReadPost erV zeroN at HI
                simp only at HI
                rw [hPO.out] at HI
                have hfin : Hid (st + (SZ + p + o) = PO) := by show _ = _; have := hPO.out; have := hBO.out; omega
                clear hstep hne hr AP2 AP ho1 hdp
                go_wp2_with fail
                refine HI.out.mono ?_
                rintro e w5 ⟨rfl, q⟩
                have G5 := Lib.hid (((BG.out.below q BG.out.lt).alloc (.cells #[.int .i64 0, .int .i64 0, .bool false, .slice none 0 0, .slice none 0 0] 26)).alloc (.cells #[.int .i64 c', .int .i64 PO] 29))
                have E5 := Lib.hid (((BE.out.below q BE.out.lt).alloc (.cells #[.int .i64 0, .int .i64 0, .bool false, .slice none 0 0, .slice none 0 0] 26)).alloc (.cells #[.int .i64 c', .int .i64 PO] 29))
                have Q5 := Lib.hid (bal (bal (bthen Q.out q) (.cells #[.int .i64 0, .int .i64 0, .bool false, .slice none 0 0, .slice none 0 0] 26)) (.cells #[.int .i64 c', .int .i64 PO] 29))
                clear q BN BG BE OW HI
                go_wp2_with fail
                refine (HF.out _ _ _).mono ?_
                rintro e w6 ⟨rfl, q⟩
                have G6 := Lib.hid (G5.out.below q G5.out.lt)
                have E6 := Lib.hid (E5.out.below q E5.out.lt)
                have Q6 := Lib.hid (bthen Q5.out q)
                obtain ⟨z20, z21, z22, z23, z24, hl2⟩ := five G6.out
                have z30 := E6.out.cell 0
                have z31 := E6.out.cell 1
                have f2 := fun i => G6.out.frozen i
                have f3 := fun i => E6.out.frozen i
                have hl3 := E6.out.lt
                simp only [List.getElem?_toArray, List.getElem?_cons_zero, List.getElem?_cons_succ] at z30 z31
                clear q
                go_wp2_with fail
                refine bodyPost_ret (v := .tuple #[zeroN, .int .i64 0, .agg #[.int .i64 c', .int .i64 PO]]) (by simp [results, Try.results28, go_sem, zeroN, z20, z21, z22, z23, z24, z30, z31]) rfl ?_
                exact ⟨by rw [hfin.out]; rfl, by repeat (first | with_reducible exact Q6.out | with_reducible refine bal ?_ _ | with_reducible refine below_at ?_ _ _ | with_reducible refine below_at1 ?_ _ _ | with_reducible refine below_draw ?_)⟩
            · have hpM : p = LE := by omega
              subst hpM
              have hPE : P = EN := by omega
              subst hPE
              have AP2 := AP.out
              have hdn : cont.drop p = [] := List.drop_of_length_le (by have := hM.out; omega)
              rw [hdn, rdKids_nil] at AP2
              have hres := HOK.out ts (by rw [← AP2]; simp [RK.app])
              subst hres
              clear AP AP2 hdn
              obtain ⟨n0, n1, n2, n3, n4, nl⟩ := five BN.out
              obtain ⟨z20, z21, z22, z23, z24, hl2⟩ := five BG.out
              have z30 := BE.out.cell 0
              have z31 := BE.out.cell 1
              have f2 := fun i => BG.out.frozen i
              have f3 := fun i => BE.out.frozen i
              have hl3 := BE.out.lt
              simp only [List.getElem?_toArray, List.getElem?_cons_zero, List.getElem?_cons_succ] at z30 z31
              have hne1 : GN ≠ w.heap.size := by omega
              have hne2 : GN ≠ w.heap.size + 1 := by omega
              go_wp2_with fail
              refine bodyPost_ret (v := .tuple #[.agg #[.int .i64 CL, .int .i64 NU, .bool true, .slice none 0 0, .slice ka ts.length kc], .int .i64 P, .agg #[.int .i64 0, .int .i64 0]]) (by simp [results, Try.results28, go_sem, z20, z21, z22, z23, z24, z30, z31]) rfl ?_
              have hNd : NdCs wr (fun b => w.heap.size + 2 ≤ b) [.int .i64 CL, .int .i64 NU, .bool true, .slice none 0 0, .slice ka ts.length kc] (.node CL NU true [] ts) :=
                ⟨none, 0, 0, ka, _, kc, rfl, BsR.nil_ _ _, OW.out.kds.weak fun b _ hb => by omega⟩
              have hS := read_stored (B := w.heap.size) (u0 := .int .i64 CL) (u1 := .int .i64 NU) (u2 := .bool true) (u3 := .slice none 0 0) (u4 := .slice ka ts.length kc) (u5 := .int .i64 0) (u6 := .int .i64 0) hNd Q.out
              exact ⟨_, by rw [hsum.out]; rfl, hS.1, hS.2⟩
    · have hn2 := rdNext_head hq
      rw [rdT_bad (by rw [hn2.1]; exact hq), hn2.1, hn2.2]
      have he := rdHead_err _ hq
      rw [he] at HH
      have hob : (rdHead (l.drop st)).off ≤ 100000 := by have := (within_next (l := l.drop st) (by rw [hn2.1]; exact hq)).1; rw [hn2.2] at this; omega
      generalize (rdHead (l.drop st)).code = C at *
      generalize (rdHead (l.drop st)).off = O at *
      unfold hdV erV noHd at HH
      simp only at HH
      have hC : ((C : Int) == 0) = false := by simp; omega
      have hC2 : ((C : Int) != 0) = true := by simp; omega
      have hO : (O : Int) ≤ 100000 := by omega
      clear hq he hn2 hll
      go_enter Try.func28, Try.ntmps28
      go_wp2_with fail
      refine (HH.out _ (bal (bal (Below.refl _ w) _) _)).mono ?_
      rintro e w2 ⟨rfl, q⟩
      have Z2 := Lib.hid (((Blk.new w 26 #[.int .i64 0, .int .i64 0, .bool false, .slice none 0 0, .slice none 0 0]).alloc (.cells #[.int .i64 0, .int .i64 0] 29)).below q (by simp; omega))
      have Z3 : Hid (Blk w2 (w.heap.size + 1) 29 #[.int .i64 0, .int .i64 0]) := by show Blk _ _ _ _; simpa using (((Blk.new (w.alloc (.cells #[.int .i64 0, .int .i64 0, .bool false, .slice none 0 0, .slice none 0 0] 26)) 29 #[.int .i64 0, .int .i64 0])).below q (by simp))
      have BB := Lib.hid (bthen (bal (bal (Below.refl _ w) _) _) q)
      clear q HH
      go_wp2_with fail
      refine (HF.out _ _ _).mono ?_
      rintro e w3 ⟨rfl, q⟩
      have Y2 := Lib.hid (((Z2.out.alloc _).alloc _).below q (by have := Z2.out.lt; simp; omega))
      have Y3 := Lib.hid (((Z3.out.alloc _).alloc _).below q (by have := Z3.out.lt; simp; omega))
      have BC := Lib.hid (bthen (bal (bal BB.out _) _) q)
      obtain ⟨z20, z21, z22, z23, z24, hl2⟩ := five Y2.out
      have z30 := Y3.out.cell 0
      have z31 := Y3.out.cell 1
      have hl3 := Y3.out.lt
      have f2 := fun i => Y2.out.frozen i
      have f3 := fun i => Y3.out.frozen i
      simp only [List.getElem?_toArray, List.getElem?_cons_zero, List.getElem?_cons_succ] at z30 z31
      clear q
      go_wp2_with fail
      exact bodyPost_ret (v := .tuple #[zeroN, .int .i64 0, .agg #[.int .i64 C, .int .i64 (st + O)]]) (by simp [results, Try.results28, go_sem, zeroN, z20, z21, z22, z23, z24, z30, z31]) rfl ⟨rfl, by repeat (first | with_reducible exact BC.out | with_reducible refine bal ?_ _ | with_reducible refine below_at ?_ _ _ | with_reducible refine below_at1 ?_ _ _ | with_reducible refine below_draw ?_)⟩
end Go.Proofs.Ytgccjdhkpgmnoaa
