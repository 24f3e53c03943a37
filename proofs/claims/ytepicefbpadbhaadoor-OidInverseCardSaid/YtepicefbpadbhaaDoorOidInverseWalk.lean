/-
  The walk of the law OidInverse.
-/
import Derived.Test.YtepicefbpadbhaaDoorOidAwake
import Derived.Test.YtepicefbpadbhaaDoorOidRefDec
namespace Go.Proofs.YtepicefbpadbhaaDoor.oidInverse
open Go.RowKit

theorem dT_len {c : List UInt8} (h : c.length ≤ 300) : (dT c).length ≤ 10000 := by
  rcases hd : decO c with _ | a
  · rw [(d_none hd).2]; simp
  · rw [(d_some hd).2]
    obtain ⟨h1, h2⟩ := dec_some hd
    have h3 := textO_len h1.2
    have h4 := subs_len (sidO a)
    rw [show subsO (sidO a) = encO a from rfl, h2] at h4
    have h5 : a.length ≤ (sidO a).length + 1 := by
      match a with
      | [] => simp
      | [_] => simp
      | x :: y :: r => simp [sidO]
    omega
theorem dT_back {c : List UInt8} {a : List Nat} (h : decO c = some a) : eC (textO a) = 0 ∧ eL (textO a) = c := by
  obtain ⟨h1, h2⟩ := dec_some h
  have h3 := e_some (arcs_text h1)
  rw [h2] at h3
  exact h3
set_option maxRecDepth 100000 in
set_option maxHeartbeats 4000000 in
theorem walk {w : World} (hW : Wd w) {a : Option Addr} {n c : Nat} {cs : List UInt8} (b0 : Bs w a n c cs) :
    Calls Tryd.prog 5 #[.slice a n c] w fun e w' => e = .returned (.bool true) ∧ Below w.heap.size w w' := by
  have HW := Lib.hid (fun w' (h : Below w.heap.size w w') => hW.below h)
  have HA := Lib.hid (fun w' (h : Wd w') => awakeOid_any w' h)
  have HW0 := Lib.hid hW
  have HX := Lib.hid b0
  have hl := b0.len
  clear hW b0
  by_cases hb : n ≤ 300
  · have hb1 : ¬ (300 : Int) < n := by omega
    have hb2 : ¬ (n : Int) > 300 := by omega
    have H1 := Lib.hid (fun w' (h : Wd w') (hx : Bs w' a n c cs) => decode_any h hx (by omega))
    have H2 := Lib.hid (fun w' (hx : Bs w' a n c cs) => refDecode_any hx (by omega))
    have hdl := dT_len (c := cs) (by omega)
    have H3 := Lib.hid (fun w' (h : Wd w') => encode_any w' h (dT cs) hdl)
    clear hl hdl
    rcases hp : decO cs with _ | L
    · have he := d_none hp
      rw [he.1, he.2] at H1 H2
      clear hp he H3
      go_enter Tryd.func5, Tryd.ntmps5
      go_wp2_with fail
      with_reducible refine (HA.out _ HW0.out).mono ?_
      rintro e w1 ⟨rfl, q⟩
      have Q1 := Lib.hid q
      clear q
      go_wp2_with fail
      with_reducible refine (H1.out _ (HW.out _ Q1.out) (HX.out.below Q1.out)).mono ?_
      rintro e w2 ⟨rfl, q⟩
      have Q2 := Lib.hid (bthen Q1.out q)
      clear q Q1
      go_wp2_with fail
      with_reducible refine (H2.out _ (HX.out.below Q2.out)).mono ?_
      rintro e w3 ⟨rfl, q⟩
      have Q3 := Lib.hid (bthen Q2.out q)
      clear q Q2
      go_wp2_with fail
      go_ret
      exact ⟨rfl, Q3.out⟩
    · have he := d_some hp
      have hk := dT_back hp
      rw [he.2, hk.1, hk.2] at H3
      rw [he.1, he.2] at H1 H2
      generalize textO L = T at *
      clear hp he hk
      go_enter Tryd.func5, Tryd.ntmps5
      go_wp2_with fail
      with_reducible refine (HA.out _ HW0.out).mono ?_
      rintro e w1 ⟨rfl, q⟩
      have Q1 := Lib.hid q
      clear q
      go_wp2_with fail
      with_reducible refine (H1.out _ (HW.out _ Q1.out) (HX.out.below Q1.out)).mono ?_
      rintro e w2 ⟨rfl, q⟩
      have Q2 := Lib.hid (bthen Q1.out q)
      clear q Q1
      go_wp2_with fail
      with_reducible refine (H2.out _ (HX.out.below Q2.out)).mono ?_
      rintro e w3 ⟨rfl, q⟩
      have Q3 := Lib.hid (bthen Q2.out q)
      clear q Q2
      go_wp2_with fail
      with_reducible refine (H3.out _ (HW.out _ Q3.out)).mono ?_
      rintro e w4 ⟨a4, c4, rfl, ho4, q⟩
      have Q4 := Lib.hid (bthen Q3.out q)
      have B4 := Lib.hid ho4.bs
      clear q Q3 ho4
      go_wp2_with fail
      with_reducible refine (bytes_any B4.out (HX.out.below Q4.out)).mono ?_
      rintro e w5 ⟨rfl, rfl⟩
      rw [eqB_self]
      go_wp2_with fail
      go_ret
      exact ⟨rfl, Q4.out⟩
  · have hb1 : (300 : Int) < n := by omega
    have hb2 : (n : Int) > 300 := by omega
    clear hl
    go_enter Tryd.func5, Tryd.ntmps5
    go_wp2_with fail
    with_reducible refine (HA.out _ HW0.out).mono ?_
    rintro e w1 ⟨rfl, q⟩
    have Q1 := Lib.hid q
    clear q
    go_wp2_with fail
    with_reducible refine (HA.out _ (HW.out _ Q1.out)).mono ?_
    rintro e w2 ⟨rfl, q⟩
    have Q2 := Lib.hid (bthen Q1.out q)
    clear q
    go_wp2_with fail
    go_ret
    exact ⟨rfl, Q2.out⟩
end Go.Proofs.YtepicefbpadbhaaDoor.oidInverse
