/-
  The walk of the law OidChanged.
-/
import Derived.Test.YtepicefbpadbhaaDoorOidAwake
import Derived.Test.YtepicefbpadbhaaDoorOidEncodesWalk
namespace Go.Proofs.YtepicefbpadbhaaDoor.oidChanged
open Go.RowKit

theorem changed {L : List Nat} (h : okO L) {i : Nat} {x : UInt8} (hi : i < (encO L).length) : 
    decO ((encO L).set i x) = none ∨ ∃ A, decO ((encO L).set i x) = some A ∧ decide (textO A = textO L) = decide (x = (encO L)[i]) := by
  rcases hd : decO ((encO L).set i x) with _ | A
  · exact .inl rfl
  · refine .inr ⟨A, rfl, decide_eq_decide.2 ?_⟩
    obtain ⟨h1, h2⟩ := dec_some hd
    constructor
    · intro he
      have h3 := text_inj h1 h he
      subst h3
      have h4 : ((encO A).set i x)[i]? = (encO A)[i]? := by rw [← h2]
      rw [List.getElem?_set_self hi, List.getElem?_eq_getElem hi] at h4
      exact Option.some.inj h4
    · intro he
      rw [he, List.set_getElem_self] at h2
      rw [enc_inj h1 h h2]
theorem encO_pos {L : List Nat} (h : okO L) : 0 < (encO L).length := by
  obtain ⟨_, _, h3⟩ := arcsOf_sid h
  have h4 := subs_len (sidO L)
  have h5 := List.length_pos_iff.2 h3
  show 0 < (subsO (sidO L)).length
  omega
theorem cells_set (C : List UInt8) (i : Nat) (x : UInt8) : (cellsOf C).set i (.int .u8 (x.toNat : Int)) = cellsOf (C.set i x) := by simp [cellsOf]
set_option maxRecDepth 100000 in
set_option maxHeartbeats 4000000 in
theorem walk {w : World} (hW : Wd w) {s : List UInt8} {at_ xx : Int} (wx1 : (Lit.int .u8 at_).wf = true) (wx2 : (Lit.int .u8 xx).wf = true) :
    Calls Tryd.prog 7 #[.string ⟨s.toArray⟩, .int .u8 at_, .int .u8 xx] w fun e w' => e = .returned (.bool true) ∧ Below w.heap.size w w' := by
  have hb1 := bounds_u8 wx1
  have hb2 := bounds_u8 wx2
  obtain ⟨k, rfl⟩ : ∃ k : Nat, at_ = k := ⟨at_.toNat, by omega⟩
  obtain ⟨x, rfl⟩ : ∃ x : UInt8, xx = x.toNat := ⟨UInt8.ofNat xx.toNat, by rw [UInt8.toNat_ofNat']; omega⟩
  clear wx1 wx2
  have HW := Lib.hid (fun w' (h : Below w.heap.size w w') => hW.below h)
  have HA := Lib.hid (fun w' (h : Wd w') => awakeOid_any w' h)
  have HW0 := Lib.hid hW
  clear hW
  obtain ⟨S, hS⟩ : ∃ S, s.length = S := ⟨_, rfl⟩
  have hs : (⟨s.toArray⟩ : ByteArray).size = S := by rw [← hS]; rfl
  by_cases hb : S ≤ 300
  · have hb3 : ¬ (300 : Int) < S := by omega
    have hb4 : ¬ (S : Int) > 300 := by omega
    have H1 := Lib.hid (fun w (h : Wd w) => encode_any w h s (by omega))
    have hel := oidEncodes.enc_len (l := s) (by omega)
    clear hS
    rcases hp : arcsO s with _ | L
    · have he := e_none hp
      rw [he.1] at H1
      clear hp he hel
      generalize eL s = C at *
      go_enter Tryd.func7, Tryd.ntmps7
      go_wp2_with fail
      with_reducible refine (HA.out _ HW0.out).mono ?_
      rintro e w1 ⟨rfl, q⟩
      have Q1 := Lib.hid q
      clear q
      go_wp2_with fail
      with_reducible refine (H1.out _ (HW.out _ Q1.out)).mono ?_
      rintro e w2 ⟨a2, c2, rfl, ho2, q⟩
      have Q2 := Lib.hid (bthen Q1.out q)
      clear q Q1 ho2
      go_wp2_with fail
      go_ret
      exact ⟨rfl, Q2.out⟩
    · have he := e_some hp
      obtain ⟨hok, htx⟩ := arcs_some hp
      rw [he.2] at hel
      rw [he.1, he.2] at H1
      obtain ⟨n, hn⟩ : ∃ n, (encO L).length = n := ⟨_, rfl⟩
      have hn0 := encO_pos hok
      rw [hn] at H1 hel hn0
      obtain ⟨i, hi⟩ : ∃ i, k % n = i := ⟨_, rfl⟩
      have hin : i < n := by rw [← hi]; exact Nat.mod_lt _ hn0
      have hil : i < (encO L).length := by omega
      have HC := changed hok (x := x) hil
      rw [htx] at HC
      obtain ⟨y, hy⟩ : ∃ y, (encO L)[i]'hil = y := ⟨_, rfl⟩
      rw [hy] at HC
      have HY : Hid (∃ h : i < (encO L).length, (encO L)[i]'h = y) := ⟨hil, hy⟩
      have hmod : (k : Int).tmod n = i := by
        rw [← hi, Int.tmod_eq_emod_of_nonneg (by omega)]
        rfl
      have hmod2 : (k : Int) % n = i := by rw [← hi]; rfl
      have HD := Lib.hid (fun w' (h : Wd w') a c (hx : Bs w' a n c ((encO L).set i x)) => decode_any h hx hel)
      have HSL : Hid (((encO L).set i x).length = n) := by rw [Hid, List.length_set]; exact hn
      have hi0 : (0 : Int) ≤ i := by omega
      have hi1 : (i : Int) < n := by omega
      have hn00 : (n : Int) ≠ 0 := by omega
      have hn01 : ¬ n = 0 := by omega
      have hn02 : ((n : Int) == 0) = false := by simp; omega
      have hn03 : (0 : Int) < n := by omega
      have hnb : (n : Int) ≤ 5000 := by omega
      clear hp he hok hi hy hil hn hel
      generalize encO L = C at *
      obtain ⟨C2, hC2⟩ : ∃ C2, C.set i x = C2 := ⟨_, rfl⟩
      have HC2 := Lib.hid hC2
      rw [hC2] at HD HC HSL
      clear hC2
      have PRE : Hid (∀ {Q : Prop}, (decO C2 = none → Q) → (∀ A, decO C2 = some A → decide (textO A = s) = decide (x = y) → Q) → Q) := by
        intro Q h1 h2
        rcases HC with h | ⟨A, h3, h4⟩
        · exact h1 h
        · exact h2 A h3 h4
      clear HC
      refine PRE.out (fun hd => ?_) (fun A hd heq => ?_)
      · have he := d_none hd
        rw [he.1, he.2] at HD
        clear hd he PRE
        go_enter Tryd.func7, Tryd.ntmps7
        go_wp2_with fail
        with_reducible refine (HA.out _ HW0.out).mono ?_
        rintro e w1 ⟨rfl, q⟩
        have Q1 := Lib.hid q
        clear q
        go_wp2_with fail
        with_reducible refine (H1.out _ (HW.out _ Q1.out)).mono ?_
        rintro e w2 ⟨a2, c2, rfl, ho2, q⟩
        obtain ⟨g, rfl, hg0, hg1⟩ := ho2.pos hn0
        obtain ⟨hil, hy⟩ := HY.out
        have hc := ho2.cell hil
        have hf := ho2.frozen i
        rw [hy] at hc
        clear hy hil
        have O3 : Hid (Own (w2.setCell ⟨g, i, none⟩ (.int .u8 (x.toNat : Int))) w1.heap.size 5 (some ⟨g, 0, none⟩) n c2 C2) := by
          rw [Hid, ← HC2.out]
          exact ho2.stored i x
        have Q2 := Lib.hid ((bthen Q1.out q).setCell (p := ⟨g, i, none⟩) (by have := Q1.out.size; show w.heap.size ≤ g; omega) (.int .u8 (x.toNat : Int)))
        clear q Q1 ho2
        go_wp2_with fail
        with_reducible refine (HD.out _ (HW.out _ Q2.out) _ _ O3.out.bs).mono ?_
        rintro e w4 ⟨rfl, q⟩
        have Q4 := Lib.hid (bthen Q2.out q)
        clear q
        go_wp2_with fail
        go_ret
        exact ⟨rfl, Q4.out⟩
      · have he := d_some hd
        rw [he.1, he.2] at HD
        clear hd he PRE
        have hxy : ((x.toNat : Int) == y.toNat) = decide (x = y) := by
          rw [Bool.eq_iff_iff]
          simp only [beq_iff_eq, decide_eq_true_eq]
          rw [← UInt8.toNat_inj]
          omega
        have hxy2 : decide ((x.toNat : Int) = y.toNat) = decide (x = y) := by
          apply decide_eq_decide.2
          rw [← UInt8.toNat_inj]
          omega
        generalize textO A = T at *
        have HB : Hid (((T == s) == decide (x = y)) = true) := by
          have h1 : (T == s) = decide (T = s) := by rw [Bool.eq_iff_iff]; simp only [beq_iff_eq, decide_eq_true_eq]
          rw [Hid, h1, heq]
          simp only [beq_self_eq_true]
        clear heq
        go_enter Tryd.func7, Tryd.ntmps7
        go_wp2_with fail
        with_reducible refine (HA.out _ HW0.out).mono ?_
        rintro e w1 ⟨rfl, q⟩
        have Q1 := Lib.hid q
        clear q
        go_wp2_with fail
        with_reducible refine (H1.out _ (HW.out _ Q1.out)).mono ?_
        rintro e w2 ⟨a2, c2, rfl, ho2, q⟩
        obtain ⟨g, rfl, hg0, hg1⟩ := ho2.pos hn0
        obtain ⟨hil, hy⟩ := HY.out
        have hc := ho2.cell hil
        have hf := ho2.frozen i
        rw [hy] at hc
        clear hy hil
        have O3 : Hid (Own (w2.setCell ⟨g, i, none⟩ (.int .u8 (x.toNat : Int))) w1.heap.size 5 (some ⟨g, 0, none⟩) n c2 C2) := by
          rw [Hid, ← HC2.out]
          exact ho2.stored i x
        have Q2 := Lib.hid ((bthen Q1.out q).setCell (p := ⟨g, i, none⟩) (by have := Q1.out.size; show w.heap.size ≤ g; omega) (.int .u8 (x.toNat : Int)))
        clear q Q1 ho2
        go_wp2_with fail
        with_reducible refine (HD.out _ (HW.out _ Q2.out) _ _ O3.out.bs).mono ?_
        rintro e w4 ⟨rfl, q⟩
        have Q4 := Lib.hid (bthen Q2.out q)
        clear q
        go_wp2_with fail
        go_ret
        exact ⟨by rw [HB.out]; rfl, Q4.out⟩
  · have hb3 : (300 : Int) < S := by omega
    have hb4 : (S : Int) > 300 := by omega
    clear hS
    go_enter Tryd.func7, Tryd.ntmps7
    go_wp2_with fail
    with_reducible refine (HA.out _ HW0.out).mono ?_
    rintro e w1 ⟨rfl, q⟩
    have Q1 := Lib.hid q
    clear q
    go_wp2_with fail
    with_reducible refine (HA.out _ (HW.out _ Q1.out)).mono ?_
    rintro e w2 ⟨rfl, q⟩
    have Q2 := Lib.hid (bthen Q1.out q)
    clear q
    go_wp2_with fail
    go_ret
    exact ⟨rfl, Q2.out⟩
end Go.Proofs.YtepicefbpadbhaaDoor.oidChanged
