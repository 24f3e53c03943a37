/-
  Contracts of Text (of the program, of the reference).
-/
import Derived.Test.YtepicefbpadbhaaDoorOidWd
import Derived.Test.YtepicefbpadbhaaDoorOidArcsMath
import Derived.Test.YtepicefbpadbhaaDoorAppend
import Derived.Test.YtepicefbpadbhaaDoorLit
namespace Go.Proofs.YtepicefbpadbhaaDoor
open Go.RowKit

theorem info_u8 : (Tryd.prog.info? 5).map (fun i => (i.zero, i.size, i.bytes)) = some (some (.int .u8 0), 1, 1) := by kernel_rfl

def tT (L : List Nat) : List UInt8 := if rightO L = true then textO L else []
def tC (L : List Nat) : Int := if rightO L = true then 0 else 8
theorem join_snoc : ∀ (ss : List (List UInt8)) (s : List UInt8), ss ≠ [] → joinO (ss ++ [s]) = joinO ss ++ 46 :: s
  | [], s, h => absurd rfl h
  | [t], s, _ => rfl
  | t :: u :: r, s, _ => by
    have ih := join_snoc (u :: r) s (by simp)
    rw [List.cons_append, List.cons_append]
    show t ++ 46 :: joinO (u :: (r ++ [s])) = (t ++ 46 :: joinO (u :: r)) ++ 46 :: s
    rw [show u :: (r ++ [s]) = (u :: r) ++ [s] from rfl, ih]
    simp
/-- the text of the first k arcs -/
def tTo (L : List Nat) (k : Nat) : List UInt8 := textO (L.take k)
theorem tTo_zero (L : List Nat) : tTo L 0 = [] := rfl
theorem tTo_all (L : List Nat) : tTo L L.length = textO L := by simp [tTo]
theorem tTo_one {L : List Nat} (h : 0 < L.length) : tTo L 1 = decN (L[0]'h) := by
  match L, h with
  | x :: r, _ => rfl
theorem tTo_succ {L : List Nat} {k : Nat} (hk : k < L.length) (h0 : k ≠ 0) : tTo L (k + 1) = tTo L k ++ 46 :: decN (L[k]'hk) := by
  unfold tTo textO
  rw [List.take_succ_eq_append_getElem hk, List.map_append]
  refine join_snoc _ _ ?_
  match L, hk with
  | x :: r, _ =>
    cases k with
    | zero => exact absurd rfl h0
    | succ k => simp
theorem tTo_first {L : List Nat} {k : Nat} (hk : k < L.length) (h0 : k = 0) : tTo L (k + 1) = tTo L k ++ decN (L[k]'hk) := by
  subst h0
  rw [Nat.zero_add, tTo_one hk]
  rfl
theorem decN_len11 {n : Nat} (h : n ≤ maxArc) : (decN n).length ≤ 11 := decN_lenO 10 n (by unfold maxArc at h; omega)
theorem tTo_len {L : List Nat} (hb : ∀ x ∈ L, x ≤ maxArc) : ∀ k ≤ L.length, (tTo L k).length ≤ 12 * k
  | 0, _ => by simp [tTo_zero]
  | k + 1, hk => by
    have ih := tTo_len hb k (by omega)
    have h11 := decN_len11 (hb L[k] (List.getElem_mem (by omega)))
    by_cases h0 : k = 0
    · subst h0
      rw [tTo_one (by omega)]
      omega
    · rw [tTo_succ (by omega) h0, List.length_append, List.length_cons]
      omega
theorem decDigits_eq (k : Nat) : ∀ n ≤ k, Lib.decDigits n = decN n := by
  induction k using Nat.strongRecOn with
  | _ k ih =>
    intro n hn
    rw [Lib.decDigits, decN]
    by_cases h : n < 10
    · rw [dif_pos h, dif_pos h]
    · rw [dif_neg h, dif_neg h, ih (n / 10) (by omega) (n / 10) (Nat.le_refl _)]
theorem appendUint_any {w : World} (hW : Wd w) {B : Nat} {a : Option Addr} {n c : Nat} {l : List UInt8} (hown : Own w B 5 a n c l) (hB : B ≤ w.heap.size) (hn : n ≤ 1000000) {u : Nat} (hu : u ≤ maxArc) :
    Calls Tryd.prog 40 #[.slice a n c, .int .u64 (u : Int), .int .i64 10] w fun e w' => ∃ a' c', e = .returned (.slice a' (n + (decN u).length) c') ∧ Own w' B 5 a' (n + (decN u).length) c' (l ++ decN u) ∧ Below B w w' := by
  have fin : ∀ (e : Ending) (w' : World), (∃ v', e = .returned v' ∧ w'.ownsRow B 5 1 v' (n + (Lib.decDigits u).length) (cellsOf l ++ Lib.byteCells (Lib.decDigits u)) ∧ Below B w w' ∧ Lib.OthersKept 5 none w w') →
      ∃ a' c', e = .returned (.slice a' (n + (decN u).length) c') ∧ Own w' B 5 a' (n + (decN u).length) c' (l ++ decN u) ∧ Below B w w' := by
    rintro e w' ⟨v', rfl, ho, hb, _⟩
    rw [decDigits_eq u u (Nat.le_refl _)] at ho
    have e2 : cellsOf l ++ Lib.byteCells (decN u) = cellsOf (l ++ decN u) := by rw [cellsOf_append]; rfl
    rw [e2] at ho
    obtain ⟨a', c', rfl, ho⟩ := Own.form ho
    exact ⟨a', c', rfl, ho, hb⟩
  unfold maxArc at hu
  by_cases h : u < 100
  · exact (Tryd.internal_strconv_AppendUint_10_small B n u h (.slice a n c) (cellsOf l) w hown hB (by omega)).mono fin
  · exact (Tryd.internal_strconv_AppendUint_10_big B n u (by omega) (by omega) (.slice a n c) (cellsOf l) w hown hB (by omega) hW.1).mono fin
set_option maxRecDepth 100000 in
theorem appUint_any {w : World} (hW : Wd w) {B : Nat} {a : Option Addr} {n c : Nat} {l : List UInt8} (hown : Own w B 5 a n c l) (hB : B ≤ w.heap.size) (hn : n ≤ 1000000) {u : Nat} (hu : u ≤ maxArc) :
    Calls Tryd.prog 30 #[.slice a n c, .int .u64 (u : Int), .int .i64 10] w fun e w' => ∃ a' c', e = .returned (.slice a' (n + (decN u).length) c') ∧ Own w' B 5 a' (n + (decN u).length) c' (l ++ decN u) ∧ Below B w w' := by
  have H := Lib.hid (appendUint_any hW hown hB hn hu)
  clear hown
  go_enter Tryd.func30, Tryd.ntmps30
  go_wp2_with fail
  refine H.out.mono ?_
  rintro e w' ⟨a', c', rfl, ho, hb⟩
  go_wp2
  go_ret
  exact ⟨a', c', rfl, ho, hb⟩

set_option maxRecDepth 100000 in
set_option maxHeartbeats 4000000 in
theorem text_any {w : World} (hW : Wd w) {a : Option Addr} {n c : Nat} {L : List Nat} (h : Uk .u32 w a n c L) (hb : ∀ x ∈ L, x ≤ maxArc) (hn : n ≤ 10000) :
    Calls Tryd.prog 11 #[.slice a n c] w fun e w' => e = .returned (.tuple #[.string ⟨(tT L).toArray⟩, .int .i64 (tC L)]) ∧ Below w.heap.size w w' := by
  obtain ⟨i0, hi, hz0, hz1, hz2⟩ := info_parts info_u8
  have HU := Lib.hid h
  have HL := Lib.hid h.1
  have hn2 : (n : Int) ≤ 10000 := by omega
  have HR := Lib.hid (validArcs_any h)
  rcases hr : rightO L with _ | _
  · have H1 : Hid (tT L = []) := by show tT L = []; unfold tT; rw [hr]; rfl
    have H2 : Hid (tC L = 8) := by show tC L = 8; unfold tC; rw [hr]; rfl
    rw [hr] at HR
    clear h hr
    go_enter Tryd.func11, Tryd.ntmps11
    go_wp2_with fail
    refine HR.out.mono ?_
    rintro e w2 ⟨rfl, rfl⟩
    go_wp2
    go_ret2
    exact ⟨by rw [H1.out, H2.out]; rfl, Below.refl _ _⟩
  · have H1 : Hid (tT L = textO L) := by show tT L = _; unfold tT; rw [hr]; rfl
    have H2 : Hid (tC L = 0) := by show tC L = _; unfold tC; rw [hr]; rfl
    rw [hr] at HR
    clear h hr
    go_enter Tryd.func11, Tryd.ntmps11
    go_wp2_with fail
    refine HR.out.mono ?_
    rintro e w2 ⟨rfl, rfl⟩
    go_wp2_with fail
    go_loopw [4, 12] (fun t i wr => ∃ (k : Nat) (a' : Option Addr) (c' : Nat), k ≤ n ∧ i = .int .i64 k ∧ t = .slice a' (tTo L k).length c' ∧ Own wr w.heap.size 5 a' (tTo L k).length c' (tTo L k) ∧ Below w.heap.size w wr) (fun _ i _ => n - (intOf i).toNat)
    case atStart => exact ⟨0, none, 0, Nat.zero_le _, rfl, rfl, World.ownsRow_nil _ _ _ _, Below.refl _ _⟩
    case round =>
      obtain ⟨k, a', c', hk, rfl, rfl, ho, hbw⟩ := hrel
      have HO := Lib.hid ho
      have HB := Lib.hid hbw
      have hsz := hbw.size
      have hk0 : (0 : Int) ≤ k := by omega
      clear ho hbw
      by_cases hlt : k < n
      · have hkl : k < L.length := by have := HL.out; omega
        obtain ⟨b, off, hkl', rfl, hbl, hc⟩ := (HU.out.below HB.out).at_ hlt
        have hlen := tTo_len hb k (by omega)
        have hx := hb L[k] (List.getElem_mem hkl)
        have hlt2 : (k : Int) < n := by omega
        by_cases h0 : k = 0
        · have h02 : ¬ (k : Int) > 0 := by omega
          have HS : Hid (tTo L (k + 1) = tTo L k ++ decN (L[k]'hkl)) := tTo_first hkl h0
          obtain ⟨x, hxx⟩ : ∃ x, L[k]'hkl = x := ⟨_, rfl⟩
          have HX := Lib.hid (appUint_any (hW.below HB.out) HO.out hsz (by omega) hx)
          rw [hxx] at hc HS HX hx
          have hw : IntKind.u64.wrap (x : Int) = x := by rw [IntKind.wrap_u64]; unfold maxArc at hx; omega
          clear hxx hx hlen h0
          go_wp2_with fail
          refine HX.out.mono ?_
          rintro e w3 ⟨a3, c3, rfl, ho3, hb3⟩
          have HO3 := Lib.hid ho3
          have HB3 := Lib.hid (HB.out.trans hb3)
          clear ho3 hb3
          go_wp2
          exact ⟨⟨k + 1, a3, c3, by omega, by go_num, by rw [HS.out, List.length_append], by rw [HS.out, List.length_append]; exact HO3.out, HB3.out⟩, by simp [intOf]; omega⟩
        · have h02 : (k : Int) > 0 := by omega
          have HS := Lib.hid (tTo_succ hkl h0)
          obtain ⟨x, hxx⟩ : ∃ x, L[k]'hkl = x := ⟨_, rfl⟩
          rw [hxx] at hc HS hx
          have hw : IntKind.u64.wrap (x : Int) = x := by rw [IntKind.wrap_u64]; unfold maxArc at hx; omega
          clear hxx
          go_wp2_with (at_builtin; go_must (refine wpList_app _ rfl _ _ 32 rfl w.heap.size 5 i0 Tryd.underlying32 hi hz0 hz1 hz2 a' (tTo L k).length c' _ rfl (World.ownsRow.alloc HO.out _) (some ⟨wr.heap.size, 0, none⟩) 1 1 [46] rfl (bs_lit _ _ _ _ 1 rfl rfl (by unfold maxLen; omega)) (by omega) (by simp; omega) ?_))
          intro a2 c2 w2 ho2 hg2
          have HO2 : Hid (Own w2 w.heap.size 5 a2 ((tTo L k).length + 1) c2 (tTo L k ++ [46])) := ho2
          have HB2 := Lib.hid ((bal HB.out _).trans (app_below (World.ownsRow.alloc HO.out (.cells #[.int .u8 46] 5)) hg2 (Nat.le_refl _) (by simp; omega)))
          have HX := Lib.hid (appUint_any (hW.below HB2.out) HO2.out HB2.out.size (by omega) hx)
          clear hx hlen h0 ho2 hg2
          go_wp2_with fail
          refine HX.out.mono ?_
          rintro e w3 ⟨a3, c3, rfl, ho3, hb3⟩
          have eL : Hid ((tTo L (k + 1)).length = (tTo L k).length + 1 + (decN x).length) := by rw [Hid, HS.out]; simp; omega
          have eT : Hid (tTo L (k + 1) = tTo L k ++ [46] ++ decN x) := by rw [Hid, HS.out]; simp
          have HO3 := Lib.hid ho3
          have HB3 := Lib.hid (HB2.out.trans hb3)
          clear ho3 hb3
          go_wp2
          exact ⟨⟨k + 1, a3, c3, by omega, by go_num, by rw [eL.out], by rw [eL.out, eT.out]; exact HO3.out, HB3.out⟩, by simp [intOf]; omega⟩
      · obtain rfl : k = n := by omega
        have HT : Hid (tTo L k = textO L) := by rw [Hid, ← HL.out]; exact tTo_all L
        have HC := Lib.hid (HO.out.bs.conv (P := Tryd.prog) (dst := 9) Tryd.underlying32 Tryd.underlying5 Tryd.underlying9)
        have hcv := HC.out
        have hlt2 : ¬ (k : Int) < k := by omega
        go_wp2
        go_ret2
        exact ⟨by rw [H1.out, H2.out, ← HT.out]; rfl, HB.out⟩
end Go.Proofs.YtepicefbpadbhaaDoor
