/-
  The walk of the law OidEncodes.
-/
import Derived.Test.YtepicefbpadbhaaDoorOidAwake
import Derived.Test.YtepicefbpadbhaaDoorOidRefEnc2
namespace Go.Proofs.YtepicefbpadbhaaDoor.oidEncodes
open Go.RowKit

theorem enc_len {l : List UInt8} (h : l.length ≤ 300) : (eL l).length ≤ 5000 := by
  rcases hp : arcsO l with _ | L
  · rw [(e_none hp).2]; simp
  · rw [(e_some hp).2]
    obtain ⟨x, y, r, hL, hs⟩ := arcs_two hp
    have h1 := arcL_len l
    rw [(arc_some hp).2] at h1
    have h2 : L.length = r.length + 2 := by rw [hL]; rfl
    have h3 := eTo_len (arcs_some hp).1.2 hL hs r.length (by omega)
    rw [show 2 + r.length = L.length from by omega, eTo_all] at h3
    omega
set_option maxRecDepth 100000 in
set_option maxHeartbeats 4000000 in
theorem walk {w : World} (hW : Wd w) {s : List UInt8} :
    Calls Tryd.prog 4 #[.string ⟨s.toArray⟩] w fun e w' => e = .returned (.bool true) ∧ Below w.heap.size w w' := by
  have HW := Lib.hid (fun w' (h : Below w.heap.size w w') => hW.below h)
  have HA := Lib.hid (fun w' (h : Wd w') => awakeOid_any w' h)
  have HW0 := Lib.hid hW
  clear hW
  obtain ⟨S, hS⟩ : ∃ S, s.length = S := ⟨_, rfl⟩
  have hs : (⟨s.toArray⟩ : ByteArray).size = S := by rw [← hS]; rfl
  by_cases hb : S ≤ 300
  · have hb1 : ¬ (300 : Int) < S := by omega
    have hb2 : ¬ (S : Int) > 300 := by omega
    have H1 := Lib.hid (fun w (h : Wd w) => encode_any w h s (by omega))
    have H2 := Lib.hid (fun w => refEncode_any w s (by omega))
    have hel := enc_len (l := s) (by omega)
    have H3 := Lib.hid (fun w (h : Wd w) a c (hx : Bs w a (eL s).length c (eL s)) => decode_any h hx hel)
    clear hS hel
    rcases hp : arcsO s with _ | L
    · have he := e_none hp
      rw [he.1] at H1 H2
      clear H3 hp he
      generalize eL s = C at *
      go_enter Tryd.func4, Tryd.ntmps4
      go_wp2_with fail
      with_reducible refine (HA.out _ HW0.out).mono ?_
      rintro e w1 ⟨rfl, q⟩
      have Q1 := Lib.hid q
      clear q
      go_wp2_with fail
      with_reducible refine (H1.out _ (HW.out _ Q1.out)).mono ?_
      rintro e w2 ⟨a2, c2, rfl, ho2, q⟩
      have Q2 := Lib.hid (bthen Q1.out q)
      have B2 := Lib.hid ho2.bs
      clear q ho2 Q1
      go_wp2_with fail
      with_reducible refine (H2.out _).mono ?_
      rintro e w3 ⟨a3, c3, rfl, ho3, q⟩
      have Q3 := Lib.hid (bthen Q2.out q)
      have A3 := Lib.hid (B2.out.below q)
      have B3 := Lib.hid ho3.bs
      clear q ho3 Q2 B2
      go_wp2_with fail
      with_reducible refine (bytes_any A3.out B3.out).mono ?_
      rintro e w4 ⟨rfl, rfl⟩
      rw [eqB_self]
      go_wp2_with fail
      with_reducible refine (bytes_any A3.out B3.out).mono ?_
      rintro e w4 ⟨rfl, rfl⟩
      rw [eqB_self]
      go_wp2_with fail
      go_ret
      exact ⟨rfl, Q3.out⟩
    · have he := e_some hp
      have hd := d_some (dec_enc (arcs_some hp).1)
      rw [(arcs_some hp).2] at hd
      rw [he.2, hd.1, hd.2] at H3
      rw [he.1, he.2] at H1 H2
      generalize encO L = C at *
      clear hp he hd
      go_enter Tryd.func4, Tryd.ntmps4
      go_wp2_with fail
      with_reducible refine (HA.out _ HW0.out).mono ?_
      rintro e w1 ⟨rfl, q⟩
      have Q1 := Lib.hid q
      clear q
      go_wp2_with fail
      with_reducible refine (H1.out _ (HW.out _ Q1.out)).mono ?_
      rintro e w2 ⟨a2, c2, rfl, ho2, q⟩
      have Q2 := Lib.hid (bthen Q1.out q)
      have B2 := Lib.hid ho2.bs
      clear q ho2 Q1
      go_wp2_with fail
      with_reducible refine (H2.out _).mono ?_
      rintro e w3 ⟨a3, c3, rfl, ho3, q⟩
      have Q3 := Lib.hid (bthen Q2.out q)
      have A3 := Lib.hid (B2.out.below q)
      have B3 := Lib.hid ho3.bs
      clear q ho3 Q2 B2
      go_wp2_with fail
      with_reducible refine (bytes_any A3.out B3.out).mono ?_
      rintro e w4 ⟨rfl, rfl⟩
      rw [eqB_self]
      go_wp2_with fail
      with_reducible refine (H3.out _ (HW.out _ Q3.out) _ _ A3.out).mono ?_
      rintro e w5 ⟨rfl, q⟩
      have Q5 := Lib.hid (bthen Q3.out q)
      clear q
      go_wp2_with fail
      go_ret
      exact ⟨rfl, Q5.out⟩
  · have hb1 : (300 : Int) < S := by omega
    have hb2 : (S : Int) > 300 := by omega
    clear hS
    go_enter Tryd.func4, Tryd.ntmps4
    go_wp2_with fail
    with_reducible refine (HA.out _ HW0.out).mono ?_
    rintro e w1 ⟨rfl, q⟩
    have Q1 := Lib.hid q
    clear q
    go_wp2_with fail
    with_reducible refine (HA.out _ (HW.out _ Q1.out)).mono ?_
    rintro e w2 ⟨rfl, q⟩
    have Q2 := Lib.hid (bthen Q1.out q)
    clear q
    go_wp2_with fail
    go_ret
    exact ⟨rfl, Q2.out⟩
end Go.Proofs.YtepicefbpadbhaaDoor.oidEncodes
