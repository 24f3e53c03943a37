/-
  Contracts of the program's size, encodings and Encode.
-/
import Derived.Test.YtgccjdhkpgmnoaaTreeBytes
import Derived.Test.YtgccjdhkpgmnoaaEncode
namespace Go.Proofs.Ytgccjdhkpgmnoaa
open Go.RowKit

def contOf : Tree → List UInt8
  | .node _ _ _ l _ => l
theorem NdCs.take_ {w : World} {R : Nat → Prop} {c n : Int} {k : Bool} {a : Option Addr} {m d : Nat} {ka : Option Addr} {kn kc : Nat} {t : Tree} (h : NdCs w R [.int .i64 c, .int .i64 n, .bool k, .slice a m d, .slice ka kn kc] t) :
    t = .node c n k (contOf t) (kidsOf t) ∧ BsR w R a m d (contOf t) ∧ Kds w R ka kn kc (kidsOf t) ∧ (contOf t).length = m := by
  cases t with
  | node c' n' k' l ks =>
    obtain ⟨a', m', d', ka', kn', kc', e, h1, h2⟩ := h
    injection e with e0 e
    injection e with e1 e
    injection e with e2 e
    injection e with e3 e
    injection e with e4 e
    injection e0 with _ e0
    injection e1 with _ e1
    injection e2 with e2
    injection e3 with p1 p2 p3
    injection e4 with q1 q2 q3
    subst e0; subst e1; subst e2; subst p1; subst p2; subst p3; subst q1; subst q2; subst q3
    exact ⟨rfl, h1, h2, h1.1.1⟩
theorem encT_len (t : Tree) : (encT t).length = 1 + ((lenOct ((contOf t).length + (encTs (kidsOf t)).length)).length + ((contOf t).length + (encTs (kidsOf t)).length)) := by
  cases t with
  | node c n k l ks =>
    rw [encT, encB_len]
    unfold contOf kidsOf
    rw [List.length_append]
theorem siz_kids (t : Tree) : sizTs (kidsOf t) + 1 ≤ sizT t := by
  cases t with
  | node c n k l ks => unfold sizT; show sizTs ks + 1 ≤ _; omega

set_option maxHeartbeats 1000000 in
theorem size_any (K : Nat) : ∀ (ts : List Tree) (w : World) (R : Nat → Prop) (ka : Option Addr) (kn kc : Nat), sizTs ts ≤ K → K ≤ 100000 → Kds w R ka kn kc ts →
    Calls Try.prog 31 #[.slice ka kn kc] w fun e w' => e = .returned (.tuple #[.int .i64 (encTs ts).length, .int .i64 0]) ∧ Below w.heap.size w w' := by
  induction K with
  | zero =>
    intro ts w R ka kn kc hs hK hk
    have : ts = [] := by
      cases ts with
      | nil => rfl
      | cons t ts => have := sizT_pos t; unfold sizTs at hs; omega
    subst this
    obtain rfl : 0 = kn := hk.1
    rw [encTs_nil]
    go_enter Try.func31, Try.ntmps31
    go_wp2_with fail
    go_loopw [4, 13] (fun s i wr => s = .int .i64 0 ∧ i = .int .i64 0 ∧ Below w.heap.size w wr) (fun _ i _ => 0)
    case atStart => exact ⟨rfl, rfl, Below.refl _ _⟩
    case round =>
      obtain ⟨rfl, rfl, hb⟩ := hrel
      have Q := Lib.hid hb
      clear hb
      go_wp2_with fail
      go_ret2
      exact ⟨rfl, Q.out⟩
  | succ K ih =>
    intro ts w R ka kn kc hs hK hk
    have HK := Lib.hid hk
    have IH := Lib.hid (fun ts w ka kn kc hs (h : Kds w R ka kn kc ts) => ih ts w R ka kn kc hs (by omega) h)
    have HL := Lib.hid hk.1
    have HS := Lib.hid hs
    have hkc := hk.2.2.1
    have hkn := hk.2.1
    unfold maxLen at hkc
    have hkn2 : (kn : Int) ≤ 1000000 := by have := len_sizTs ts; have := HL.out; omega
    have HLn := Lib.hid (fun (L : Nat) (hL : L ≤ 700000) w => length_ok (n := L) (by omega) w)
    clear hk ih hs
    go_enter Try.func31, Try.ntmps31
    go_wp2_with fail
    go_loopw [4, 13] (fun s i wr => ∃ j S : Nat, j ≤ kn ∧ i = .int .i64 j ∧ s = .int .i64 S ∧ (encTs (ts.take j)).length = S ∧ Below w.heap.size w wr) (fun _ i _ => kn - (intOf i).toNat)
    case atStart => exact ⟨0, _, Nat.zero_le _, rfl, rfl, by rw [List.take_zero, encTs_nil]; rfl, Below.refl _ _⟩
    case round =>
      obtain ⟨j, S, hj, rfl, rfl, hS, hbel⟩ := hrel
      have Q := Lib.hid hbel
      have HSS := Lib.hid hS
      clear hbel hS
      by_cases hlt : j < kn
      · obtain ⟨kb, ko, hl, rfl, hkb, c', n', k', a', m', d', ka', kn', kc', y0, y1, y2, y3, y4, hn⟩ := (HK.out.below Q.out).kid hlt
        obtain ⟨_, _, hkk, hml⟩ := hn.take_
        have hT := encTs_take hl
        have hTl := congrArg List.length hT
        rw [List.length_append] at hTl
        have hel := encT_len ts[j]
        rw [hml] at hel
        have hsz := sizTs_at ts j hl
        have hsk := siz_kids ts[j]
        have hsl := sizTs_take_le ts (j + 1)
        have he1 := encTs_size (ts.take (j + 1)) (by have := HS.out; omega)
        have he2 := encTs_size (kidsOf ts[j]) (by have := HS.out; omega)
        have HI := Lib.hid (fun o => IH.out (kidsOf ts[j]) _ _ _ _ (by have := HS.out; omega) (hkk.below (bal (Below.refl _ wr) o)))
        generalize (encTs (kidsOf ts[j])).length = I at *
        obtain ⟨T, hT2⟩ : ∃ T, Hid (m' + I = T) := ⟨_, rfl⟩
        rw [hT2.out] at hel
        have hb0 : I ≤ 700000 ∧ m' ≤ 700000 ∧ T ≤ 700000 ∧ S ≤ 700000 ∧ (lenOct T).length ≤ 700000 ∧ S + (encT ts[j]).length ≤ 700000 := by have := HS.out; have := HSS.out; have := hT2.out; omega
        have hTI : (m' : Int) + I = T := by have := hT2.out; omega
        have HLT := Lib.hid (HLn.out T hb0.2.2.1)
        obtain ⟨LO, hLO⟩ : ∃ LO, Hid ((lenOct T).length = LO) := ⟨_, rfl⟩
        rw [hLO.out] at hel hb0 HLT
        obtain ⟨hb1, hb2, hb3, hb4, hb5, hb6⟩ := hb0
        have hSum : Hid ((encTs (ts.take (j + 1))).length = S + (1 + LO + T)) := by show _ = _; have := HSS.out; omega
        have hb7 : S + (1 + LO + T) ≤ 700000 := by omega
        have i1 : (I : Int) ≤ 700000 := by omega
        have i2 : (m' : Int) ≤ 700000 := by omega
        have i3 : (T : Int) ≤ 700000 := by omega
        have i4 : (S : Int) + (1 + LO + T) ≤ 700000 := by omega
        have i5 : (LO : Int) ≤ 700000 := by omega
        have i6 : (S : Int) ≤ 700000 := by omega
        have hlt' : (j : Int) < kn := by omega
        have hj0 : (0 : Int) ≤ j := by omega
        clear hsz hsk hsl he1 he2 hkk hn hT hTl hel hml hb1 hb2 hb3 hb4 hb5 hb6
        go_wp2_with fail
        refine (HI.out _).mono ?_
        rintro e w2 ⟨rfl, q⟩
        have B2 := Lib.hid ((Blk.new wr 26 #[.int .i64 c', .int .i64 n', .bool k', .slice a' m' d', .slice ka' kn' kc']).below q (by simp))
        have Q2 := Lib.hid (bthen (bal Q.out _) q)
        obtain ⟨z0, z1, z2, z3, z4, zl⟩ := five B2.out
        clear q HI
        go_wp2_with fail
        refine (HLT.out _).mono ?_
        rintro e w3 ⟨a3, c3, rfl, ho, q⟩
        have Q3 := Lib.hid (bthen Q2.out q)
        clear ho q HLT
        go_wp2_with fail
        go_roundw
        case rel => exact ⟨j + 1, _, by omega, by go_num, rfl, by rw [hSum.out], Q3.out⟩
        case measure => simp [intOf]; omega
      · have hje : j = kn := by omega
        subst hje
        go_wp2_with fail
        go_ret2
        exact ⟨by rw [← HSS.out, List.take_of_length_le (by have := HL.out; omega)]; rfl, Q.out⟩

set_option maxHeartbeats 1000000 in
theorem encodings_any (K : Nat) : ∀ (ts : List Tree) (w : World) (R : Nat → Prop) (ka : Option Addr) (kn kc : Nat), sizTs ts ≤ K → K ≤ 100000 → okTs ts = true → Kds w R ka kn kc ts →
    Calls Try.prog 32 #[.slice ka kn kc] w fun e w' => ∃ a' c', e = .returned (.slice a' (encTs ts).length c') ∧ Own w' w.heap.size 5 a' (encTs ts).length c' (encTs ts) ∧ Below w.heap.size w w' := by
  induction K with
  | zero =>
    intro ts w R ka kn kc hs hK hok hk
    have : ts = [] := by
      cases ts with
      | nil => rfl
      | cons t ts => have := sizT_pos t; unfold sizTs at hs; omega
    subst this
    obtain rfl : 0 = kn := hk.1
    rw [encTs_nil]
    go_enter Try.func32, Try.ntmps32
    go_wp2_with fail
    go_loopw [3, 11] (fun s i wr => s = .slice none 0 0 ∧ i = .int .i64 0 ∧ Below w.heap.size w wr) (fun _ i _ => 0)
    case atStart => exact ⟨rfl, rfl, Below.refl _ _⟩
    case round =>
      obtain ⟨rfl, rfl, hb⟩ := hrel
      have Q := Lib.hid hb
      clear hb
      go_wp2_with fail
      go_ret
      exact ⟨none, 0, rfl, World.ownsRow_nil _ _ _ _, Q.out⟩
  | succ K ih =>
    intro ts w R ka kn kc hs hK hok hk
    obtain ⟨i0, hi, hz0, hz1, hz2⟩ := info_parts info_u8
    have HK := Lib.hid hk
    have IH := Lib.hid (fun ts w ka kn kc hs ho (h : Kds w R ka kn kc ts) => ih ts w R ka kn kc hs (by omega) ho h)
    have HL := Lib.hid hk.1
    have HS := Lib.hid hs
    have HO := Lib.hid (fun i (h : i < ts.length) => okTs_at ts i h hok)
    have hkc := hk.2.2.1
    have hkn := hk.2.1
    unfold maxLen at hkc
    have hkn2 : (kn : Int) ≤ 1000000 := by have := len_sizTs ts; have := HL.out; omega
    have HSB : Hid (∀ j, (encTs (ts.take j)).length ≤ 700000) := fun j => by
      have h1 := sizTs_take_le ts j
      have h2 := encTs_size (ts.take j) (by have := HS.out; omega)
      have := HS.out
      omega
    clear hk ih hs hok
    go_enter Try.func32, Try.ntmps32
    go_wp2_with fail
    go_loopw [3, 11] (fun s i wr => ∃ j : Nat, ∃ a3 c3, j ≤ kn ∧ i = .int .i64 j ∧ s = .slice a3 (encTs (ts.take j)).length c3 ∧ Own wr w.heap.size 5 a3 (encTs (ts.take j)).length c3 (encTs (ts.take j)) ∧ Below w.heap.size w wr) (fun _ i _ => kn - (intOf i).toNat)
    case atStart => exact ⟨0, none, 0, Nat.zero_le _, rfl, by rw [List.take_zero, encTs_nil]; rfl, by rw [List.take_zero, encTs_nil]; exact World.ownsRow_nil _ _ _ _, Below.refl _ _⟩
    case round =>
      obtain ⟨j, a3, c3, hj, rfl, rfl, ho, hbel⟩ := hrel
      have O := Lib.hid ho
      have Q := Lib.hid hbel
      have hbd := HSB.out j
      clear hbel ho
      by_cases hlt : j < kn
      · obtain ⟨kb, ko, hl, rfl, hkb, c', n', k', a', m', d', ka', kn', kc', y0, y1, y2, y3, y4, hn⟩ := (HK.out.below Q.out).kid hlt
        obtain ⟨hnode, hbs, hkk, hml⟩ := hn.take_
        have hokj := HO.out j hl
        rw [hnode] at hokj
        obtain ⟨⟨c0, c3', n0, n30, hk1, hk2⟩, hoks⟩ := okN_of_ok hokj
        obtain ⟨c'', rfl⟩ : ∃ c'' : Nat, c' = c'' := ⟨c'.toNat, by omega⟩
        obtain ⟨n'', rfl⟩ : ∃ n'' : Nat, n' = n'' := ⟨n'.toNat, by omega⟩
        have hc3 : c'' ≤ 3 := by omega
        have hn30 : n'' ≤ 30 := by omega
        have hEj : encT ts[j] = encB c'' n'' k' (contOf ts[j] ++ encTs (kidsOf ts[j])) := by rw [hnode, encT]; rfl
        have hT := Lib.hid (encTs_take hl)
        have hsz := sizTs_at ts j hl
        have hsk := siz_kids ts[j]
        have hE1 := HSB.out (j + 1)
        rw [hT.out, List.length_append] at hE1
        have hel := encT_len ts[j]
        rw [hml] at hel
        have hm3 : m' ≤ 700000 := by omega
        have hkl3 : (encTs (kidsOf ts[j])).length ≤ 700000 := by omega
        obtain ⟨V, hV⟩ : ∃ V, Hid (encTs (ts.take j) = V) := ⟨_, rfl⟩
        rw [hV.out] at O hbd hE1 hT ⊢
        obtain ⟨VL, hVL⟩ : ∃ VL, Hid (V.length = VL) := ⟨_, rfl⟩
        rw [hVL.out] at O hbd hE1 ⊢
        have hlt' : (j : Int) < kn := by omega
        have hj0 : (0 : Int) ≤ j := by omega
        have HI := Lib.hid (fun o => IH.out (kidsOf ts[j]) _ _ _ _ (by have := HS.out; omega) hoks (hkk.below (bal (Below.refl _ wr) o)))
        have HBS := Lib.hid hbs.1
        have HE := Lib.hid hEj
        cases k' with
        | false =>
          have hkids := hk2 rfl
          rw [hkids, encTs_nil, List.append_nil] at HE
          have HEn := Lib.hid (fun o => encode_ok hc3 hn30 false (HBS.out.below (bal (Below.refl _ wr) o)) (by omega))
          rw [← HE.out] at HEn
          generalize encT ts[j] = Y at *
          clear hsz hsk hkk hn hnode hbs hokj hoks hk1 hk2 c0 c3' n0 n30 hEj hel hkids hkl3 HE HI
          go_wp2_with fail
          refine (HEn.out _).mono ?_
          rintro e w3 ⟨a4, c4, rfl, ho4, q⟩
          have O4 := Lib.hid ho4.bs
          have O3 := Lib.hid ((O.out.below (bal (Below.refl _ wr) _)).below q)
          have Q3 := Lib.hid (bthen (bal Q.out _) q)
          have hs3 := Q3.out.size
          clear ho4 q HEn
          go_wp2_with (at_builtin; go_must (refine wpList_app _ rfl _ _ 22 rfl w.heap.size 5 i0 Try.underlying22 hi hz0 hz1 hz2 a3 VL c3 V rfl O3.out a4 Y.length c4 Y rfl O4.out ?d1 ?d2 ?_))
          case d1 => omega
          case d2 => exact hs3
          intro a5 c5 w5 ho5 hg5
          have D5 : Hid (Below w.heap.size w3 w5) := app_below O3.out hg5 (Nat.le_refl _) hs3
          have O5 := Lib.hid ho5
          have Q5 : Hid (Below w.heap.size w w5) := Q3.out.trans D5.out
          clear ho5 hg5
          go_wp2_with fail
          go_roundw
          case rel => exact ⟨j + 1, a5, c5, by omega, by go_num, by rw [hT.out, List.length_append, hVL.out], by rw [hT.out, List.length_append, hVL.out]; exact O5.out, Q5.out⟩
          case measure => simp [intOf]; omega
        | true =>
          have hcont := hk1 rfl
          rw [hcont, List.nil_append] at HE
          generalize encTs (kidsOf ts[j]) = I at *
          have HEn := Lib.hid (fun w' (a : Option Addr) (c : Nat) (h : Bs w' a I.length c I) => encode_ok hc3 hn30 true h (by omega))
          rw [← HE.out] at HEn
          generalize encT ts[j] = Y at *
          clear hsz hsk hkk hn hnode hbs hokj hoks hk1 hk2 c0 c3' n0 n30 hEj hel hcont HE HBS
          go_wp2_with fail
          refine (HI.out _).mono ?_
          rintro e w2 ⟨a6, c6, rfl, ho6, q⟩
          have O6 := Lib.hid ho6.bs
          have B2 := Lib.hid ((Blk.new wr 26 #[.int .i64 c'', .int .i64 n'', .bool true, .slice a' m' d', .slice ka' kn' kc']).below q (by simp))
          have O2 := Lib.hid ((O.out.below (bal (Below.refl _ wr) _)).below q)
          have Q2 := Lib.hid (bthen (bal Q.out _) q)
          obtain ⟨z0, z1, z2, z3, z4, zl⟩ := five B2.out
          clear ho6 q HI
          go_wp2_with fail
          refine (HEn.out _ _ _ O6.out).mono ?_
          rintro e w3 ⟨a4, c4, rfl, ho4, q⟩
          have O4 := Lib.hid ho4.bs
          have O3 := Lib.hid (O2.out.below q)
          have Q3 := Lib.hid (bthen Q2.out q)
          have hs3 := Q3.out.size
          clear ho4 q HEn z0 z1 z2 z3 z4 zl B2
          go_wp2_with (at_builtin; go_must (refine wpList_app _ rfl _ _ 22 rfl w.heap.size 5 i0 Try.underlying22 hi hz0 hz1 hz2 a3 VL c3 V rfl O3.out a4 Y.length c4 Y rfl O4.out ?d1 ?d2 ?_))
          case d1 => omega
          case d2 => exact hs3
          intro a5 c5 w5 ho5 hg5
          have D5 : Hid (Below w.heap.size w3 w5) := app_below O3.out hg5 (Nat.le_refl _) hs3
          have O5 := Lib.hid ho5
          have Q5 : Hid (Below w.heap.size w w5) := Q3.out.trans D5.out
          clear ho5 hg5
          go_wp2_with fail
          go_roundw
          case rel => exact ⟨j + 1, a5, c5, by omega, by go_num, by rw [hT.out, List.length_append, hVL.out], by rw [hT.out, List.length_append, hVL.out]; exact O5.out, Q5.out⟩
          case measure => simp [intOf]; omega
      · have hje : j = kn := by omega
        subst hje
        have hVe : Hid (encTs (ts.take j) = encTs ts) := by
          show _ = _
          rw [List.take_of_length_le (by have := HL.out; omega)]
        rw [hVe.out] at O
        go_wp2_with fail
        go_ret
        exact ⟨a3, c3, by rw [hVe.out]; rfl, O.out, Q.out⟩
end Go.Proofs.Ytgccjdhkpgmnoaa
