/-
  What the package-level variables of the library hold that object identifiers reach; contract of parseArc.
-/
import Derived.Test.YtepicefbpadbhaaDoorOidNum
import Derived.Test.YtepicefbpadbhaaDoorShelf
import Derived.Shelf.Unicode.PredsPay
namespace Go.Proofs.YtepicefbpadbhaaDoor
open Go.RowKit

def ErrIs (w : World) (g : Nat) : Prop := ∃ ev, w.cell? ⟨g, 0, none⟩ = some ev ∧ (ev = .nilIface ∨ ∃ te pe, ev = .iface te pe)
theorem ErrIs.below {w w' : World} {g : Nat} (h : ErrIs w g) (hb : Below w.heap.size w w') : ErrIs w' g := by
  obtain ⟨ev, h1, h2⟩ := h
  exact ⟨ev, (hb.cell (p := ⟨g, 0, none⟩) (Lib.lt_of_cell h1)).trans h1, h2⟩
def Wd (w : World) : Prop := Lib.TabIs Tryd.prog w "internal/strconv.uint64pow10" .u64 Lib.pow10Tab ∧ ErrIs w 4 ∧ ErrIs w 5
theorem Wd.below {w w' : World} (h : Wd w) (hb : Below w.heap.size w w') : Wd w' :=
  ⟨TabIs_below (g := 0) (by kernel_rfl) h.1 hb, h.2.1.below hb, h.2.2.below hb⟩

/-! ### the library's reading of a decimal number -/
theorem pu_ok (M : Nat) (hM : M < 1844674407370955162) : ∀ (l : List UInt8) (acc v : Nat), acc ≤ M →
    (Lib.parseUintM M acc l = .ok v ↔ l.all isD = true ∧ l.foldl (fun n x => n * 10 + (x.toNat - 48)) acc ≤ M ∧ v = l.foldl (fun n x => n * 10 + (x.toNat - 48)) acc)
  | [], acc, v, h => by
    simp only [Lib.parseUintM, List.all_nil, List.foldl_nil, true_and, Lib.NumEnd.ok.injEq]
    exact ⟨fun e => ⟨h, e.symm⟩, fun e => e.2.symm⟩
  | x :: l, acc, v, h => by
    rw [Lib.parseUintM, List.all_cons, List.foldl_cons]
    by_cases hx : 48 ≤ x.toNat ∧ x.toNat ≤ 57
    · have hd : isD x = true := by unfold isD; simp [hx.1, hx.2]
      rw [if_pos hx, if_neg (by omega), hd, Bool.true_and]
      by_cases h2 : M < acc * 10 + (x.toNat - 48)
      · rw [if_pos h2]
        constructor
        · intro e; cases e
        · rintro ⟨_, e, _⟩
          have := dval_foldl l (acc * 10 + (x.toNat - 48))
          omega
      · rw [if_neg h2]
        exact pu_ok M hM l _ v (by omega)
    · have hd : isD x = false := by
        unfold isD
        simp only [Bool.and_eq_false_iff, decide_eq_false_iff_not]
        omega
      rw [if_neg hx, hd, Bool.false_and]
      constructor
      · intro e; cases e
      · rintro ⟨e, _⟩; cases e
theorem pu32 (t : List UInt8) (v : Nat) : Lib.parseUintB 32 t = .ok v ↔ t ≠ [] ∧ t.all isD = true ∧ dval t ≤ maxArc ∧ v = dval t := by
  unfold Lib.parseUintB
  by_cases h : t = []
  · rw [if_pos h]
    constructor
    · intro e; cases e
    · intro e; exact absurd h e.1
  · rw [if_neg h, pu_ok _ (by decide) t 0 v (Nat.zero_le _)]
    unfold maxArc dval
    exact ⟨fun e => ⟨h, e⟩, fun e => e.2⟩
theorem par_zero {t : List UInt8} (h1 : 1 < t.length) (h : t[0]'(by omega) = 48) : arcOf t = none := by
  unfold arcOf
  rw [if_neg]
  rintro ⟨h2, _⟩
  unfold numOk at h2
  match t, h1, h with
  | x :: y :: r, _, h =>
    simp only [List.getElem_cons_zero] at h
    subst h
    simp at h2
theorem par_plain {t : List UInt8} (h : ¬ ∃ h1 : 1 < t.length, t[0]'(by omega) = 48) : arcOf t = match Lib.parseUintB 32 t with | .ok v => some v | _ => none := by
  have hk : numOk t = true ↔ t ≠ [] ∧ t.all isD = true := by
    unfold numOk
    match t, h with
    | [], _ => simp
    | [x], _ =>
      by_cases hx : x = 48 <;> simp [hx]
    | x :: y :: r, h =>
      have hx : x ≠ 48 := fun e => h ⟨by simp, e⟩
      simp [hx]
  unfold arcOf
  by_cases hc : numOk t = true ∧ dval t ≤ maxArc
  · have := (pu32 t (dval t)).2 ⟨(hk.1 hc.1).1, (hk.1 hc.1).2, hc.2, rfl⟩
    rw [if_pos hc, this]
  · rw [if_neg hc]
    rcases hp : Lib.parseUintB 32 t with v | _ | _
    · obtain ⟨h1, h2, h3, _⟩ := (pu32 t v).1 hp
      exact absurd ⟨hk.2 ⟨h1, h2⟩, h3⟩ hc
    · rfl
    · rfl

set_option maxRecDepth 100000 in
set_option maxHeartbeats 2000000 in
theorem parseArc_any (w : World) (hW : Wd w) (t : List UInt8) (hz : t.length ≤ 1000000) : Calls Tryd.prog 26 #[.string ⟨t.toArray⟩] w fun e w' => e = .returned (.tuple #[.int .u32 (((arcOf t).getD 0 : Nat) : Int), .bool (arcOf t).isSome]) ∧ Below w.heap.size w w' := by
  obtain ⟨m, hm⟩ : ∃ m, t.length = m := ⟨_, rfl⟩
  have hs : (⟨t.toArray⟩ : ByteArray).size = m := by rw [← hm]; rfl
  have HM := Lib.hid hm
  have hmz : (m : Int) ≤ 1000000 := by omega
  have hm0 : (0 : Int) ≤ m := by omega
  -- the library's part
  have rest : (¬ ∃ h1 : 1 < t.length, t[0]'(by omega) = 48) → Hid (Calls Tryd.prog 39 #[.string ⟨t.toArray⟩, .int .i64 10, .int .i64 32] w fun e w' => ∃ v : Nat, ∃ r, e = .returned (.tuple #[.int .u64 (v : Int), r]) ∧ Below w.heap.size w w' ∧ (r = .nilIface ∧ arcOf t = some v ∨ (∃ q, r = .iface 82 q) ∧ arcOf t = none)) := by
    intro hno
    have hp := par_plain hno
    rcases hq : Lib.parseUintB 32 t with v | _ | _
    · rw [hq] at hp
      refine (Tryd.strconv_ParseUint_10_at32_ok ⟨t.toArray⟩ (by rw [hs]; omega) v hq w).mono ?_
      rintro e w' ⟨rfl, hw⟩
      refine ⟨v, _, rfl, ?_, .inl ⟨rfl, hp⟩⟩
      rcases hw with rfl | rfl
      · exact Below.refl _ _
      · exact Lib.bytesWorld_below _ _ _
    · rw [hq] at hp
      obtain ⟨ev, he, he2⟩ := hW.2.1
      refine (Any.strconv_ParseUint_10_at32_syntax Tryd.laysPu14 ⟨t.toArray⟩ (by rw [hs]; omega) hq ev w he he2).mono ?_
      rintro e w' ⟨N, rfl, _, _, hb⟩
      exact ⟨0, _, rfl, hb, .inr ⟨⟨_, rfl⟩, hp⟩⟩
    · rw [hq] at hp
      obtain ⟨ev, he, he2⟩ := hW.2.2
      refine (Tryd.strconv_ParseUint_10_at32_range ⟨t.toArray⟩ (by rw [hs]; omega) hq ev w he he2).mono ?_
      rintro e w' ⟨N, rfl, _, _, hb⟩
      exact ⟨4294967295, _, rfl, hb, .inr ⟨⟨_, rfl⟩, hp⟩⟩
  by_cases h1 : 1 < m
  · have h1' : (m : Int) > 1 := by omega
    have hm0' : 0 < (⟨t.toArray⟩ : ByteArray).size := by rw [hs]; omega
    obtain ⟨x, hx⟩ : ∃ x, (⟨t.toArray⟩ : ByteArray)[0]'hm0' = x := ⟨_, rfl⟩
    have hx2 : t[0]'(by omega) = x := hx
    by_cases h48 : x = 48
    · have hA := Lib.hid (par_zero (t := t) (by omega) (by rw [hx2, h48]))
      have h48' : (x.toNat : Int) = 48 := by rw [h48]; rfl
      clear rest hx2 hW hz h48
      go_enter Tryd.func26, Tryd.ntmps26
      go_wp2
      go_ret2
      exact ⟨by rw [hA.out]; rfl, Below.refl _ _⟩
    · have h48' : ¬ (x.toNat : Int) = 48 := fun e => h48 (by apply UInt8.toNat_inj.1; have h46 : (48 : UInt8).toNat = 48 := rfl; omega)
      have H := rest (by rintro ⟨_, e⟩; exact h48 (hx2.symm.trans e))
      clear rest hx2 hW hz h48
      go_enter Tryd.func26, Tryd.ntmps26
      go_wp2_with fail
      refine H.out.mono ?_
      rintro e w2 ⟨v, r, rfl, hb, ⟨rfl, hA⟩ | ⟨⟨q, rfl⟩, hA⟩⟩
      · have HA := Lib.hid hA
        have hv : v ≤ 4294967295 := (arcOf_some hA).2.1
        have hw : IntKind.u32.wrap (v : Int) = v := by rw [IntKind.wrap_u32]; omega
        clear hA hv
        go_wp2
        go_ret2
        exact ⟨by rw [HA.out]; rfl, hb⟩
      · have HA := Lib.hid hA
        clear hA
        go_wp2
        go_ret2
        exact ⟨by rw [HA.out]; rfl, hb⟩
  · have h1' : ¬ (m : Int) > 1 := by omega
    have H := rest (by rintro ⟨h, _⟩; omega)
    clear rest hW hm hz
    go_enter Tryd.func26, Tryd.ntmps26
    go_wp2_with fail
    refine H.out.mono ?_
    rintro e w2 ⟨v, r, rfl, hb, ⟨rfl, hA⟩ | ⟨⟨q, rfl⟩, hA⟩⟩
    · have HA := Lib.hid hA
      have hv : v ≤ 4294967295 := (arcOf_some hA).2.1
      have hw : IntKind.u32.wrap (v : Int) = v := by rw [IntKind.wrap_u32]; omega
      clear hA hv
      go_wp2
      go_ret2
      exact ⟨by rw [HA.out]; rfl, hb⟩
    · have HA := Lib.hid hA
      clear hA
      go_wp2
      go_ret2
      exact ⟨by rw [HA.out]; rfl, hb⟩
end Go.Proofs.YtepicefbpadbhaaDoor
