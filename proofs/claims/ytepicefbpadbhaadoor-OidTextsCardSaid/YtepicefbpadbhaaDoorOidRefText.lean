/-
  Contract of the reference's Text.
-/
import Derived.Test.YtepicefbpadbhaaDoorOidText
namespace Go.Proofs.YtepicefbpadbhaaDoor
open Go.RowKit

set_option maxRecDepth 100000 in
set_option maxHeartbeats 4000000 in
theorem refText_any {w : World} {a : Option Addr} {n c : Nat} {L : List Nat} (h : Uk .u32 w a n c L) (hb : ∀ x ∈ L, x ≤ maxArc) (hn : n ≤ 10000) :
    Calls Tryd.prog 12 #[.slice a n c] w fun e w' => e = .returned (.tuple #[.string ⟨(tT L).toArray⟩, .int .i64 (tC L)]) ∧ w = w' := by
  have HU := Lib.hid h
  have HL := Lib.hid h.1
  have hn2 : (n : Int) ≤ 10000 := by omega
  have HR := Lib.hid (refRight_any h)
  rcases hr : rightO L with _ | _
  · have H1 : Hid (tT L = []) := by show tT L = []; unfold tT; rw [hr]; rfl
    have H2 : Hid (tC L = 8) := by show tC L = 8; unfold tC; rw [hr]; rfl
    rw [hr] at HR
    clear h hr
    go_enter Tryd.func12, Tryd.ntmps12
    go_wp2_with fail
    refine HR.out.mono ?_
    rintro e w2 ⟨rfl, rfl⟩
    go_wp2
    go_ret2
    exact ⟨by rw [H1.out, H2.out]; rfl, rfl⟩
  · have H1 : Hid (tT L = textO L) := by show tT L = _; unfold tT; rw [hr]; rfl
    have H2 : Hid (tC L = 0) := by show tC L = _; unfold tC; rw [hr]; rfl
    have h1 : 1 ≤ n := by
      have := h.1
      match L, hr with
      | x :: r, _ => simp at this; omega
    rw [hr] at HR
    clear h hr
    obtain ⟨b, off, hkl0, rfl, hbl, hc0⟩ := HU.out.at_ (show 0 < n by omega)
    have hx0 := hb L[0] (List.getElem_mem hkl0)
    have hw0 : IntKind.u64.wrap ((L[0] : Nat) : Int) = (L[0] : Nat) := by rw [IntKind.wrap_u64]; unfold maxArc at hx0; omega
    have HD0 := Lib.hid (digits_any L[0] L[0] (Nat.le_refl _) (by unfold maxArc at hx0; omega) w)
    have HT1 := Lib.hid (tTo_one hkl0)
    rw [Nat.add_zero] at hc0
    obtain ⟨x0, hxx⟩ : ∃ x0, L[0] = x0 := ⟨_, rfl⟩
    rw [hxx] at hc0 hw0 HD0 HT1
    clear hxx hx0
    have h1' : (1 : Int) ≤ n := by omega
    go_enter Tryd.func12, Tryd.ntmps12
    go_wp2_with fail
    refine HR.out.mono ?_
    rintro e w2 ⟨rfl, rfl⟩
    go_wp2_with fail
    refine HD0.out.mono ?_
    rintro e w2 ⟨rfl, rfl⟩
    go_wp2_with fail
    go_loop [4, 5] (fun t i => ∃ k : Nat, k ≤ n ∧ 1 ≤ k ∧ i = .int .i64 k ∧ t = .string ⟨(tTo L k).toArray⟩) (fun _ i => n - (intOf i).toNat)
    case atStart => exact ⟨1, by omega, Nat.le_refl _, rfl, by rw [HT1.out]⟩
    case round =>
      obtain ⟨k, hk, hk1, rfl, rfl⟩ := hrel
      have hk0 : (0 : Int) ≤ k := by omega
      by_cases hlt : k < n
      · have hkl : k < L.length := by have := HL.out; omega
        obtain ⟨b', off', hkl', e, _, hc⟩ := HU.out.at_ hlt
        injection e with e
        injection e with e1 e2
        subst e1; subst e2
        have hlen := tTo_len hb k (by omega)
        have hx := hb L[k] (List.getElem_mem hkl)
        have hlt2 : (k : Int) < n := by omega
        have HS := Lib.hid (tTo_succ hkl (by omega))
        have HD := Lib.hid (digits_any L[k] L[k] (Nat.le_refl _) (by unfold maxArc at hx; omega) w)
        obtain ⟨x, hxx⟩ : ∃ x, L[k]'hkl = x := ⟨_, rfl⟩
        rw [hxx] at hc HS HD hx
        have hw : IntKind.u64.wrap (x : Int) = x := by rw [IntKind.wrap_u64]; unfold maxArc at hx; omega
        have hs0 : (tTo L k).length ≤ 120000 := by omega
        have hs1 : (decN x).length ≤ 11 := decN_len11 hx
        have HE : Hid ((⟨(tTo L k).toArray⟩ : ByteArray) ++ ⟨#[46]⟩ ++ ⟨(decN x).toArray⟩ = ⟨(tTo L (k + 1)).toArray⟩) := by
          rw [Hid, HS.out, str_join (tTo L k) [46], str_join]
          simp
        clear hxx hlen hx hkl'
        go_wp2_with fail
        refine HD.out.mono ?_
        rintro e w2 ⟨rfl, rfl⟩
        go_wp2
        exact ⟨⟨k + 1, by omega, by omega, by go_num, by rw [HE.out]⟩, by simp [intOf]; omega⟩
      · obtain rfl : k = n := by omega
        have HT : Hid (tTo L k = textO L) := by rw [Hid, ← HL.out]; exact tTo_all L
        have hlt2 : ¬ (k : Int) < k := by omega
        go_wp2
        go_ret2
        exact ⟨by rw [H1.out, H2.out, ← HT.out]; rfl, rfl⟩
end Go.Proofs.YtepicefbpadbhaaDoor
