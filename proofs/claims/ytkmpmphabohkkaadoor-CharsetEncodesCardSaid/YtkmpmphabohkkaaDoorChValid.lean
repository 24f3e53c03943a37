/-
  Contracts of the reference's Valid and Len.
-/
import Derived.Test.YtkmpmphabohkkaaDoorChPts
import Derived.Test.YtkmpmphabohkkaaDoorWk
namespace Go.Proofs.YtkmpmphabohkkaaDoor
open Go.RowKit

/-- a character string as a value -/
def tV (k : Int) (s : List UInt8) : Value := .agg #[.int .i64 k, .string ⟨s.toArray⟩]
theorem vT_none {k : Int} {s : List UInt8} (h : (ptsO s).isSome = false) : vT k s = false := by
  unfold vT
  rw [Option.isSome_eq_false_iff, Option.isNone_iff_eq_none] at h
  rw [h]
theorem vT_wid {k : Int} {s : List UInt8} (h : widK k < 0) : vT k s = false := by
  unfold vT
  rcases ptsO s with _ | L
  · rfl
  · dsimp only
    rw [decide_eq_false (by omega)]
    rfl
theorem vT_all {k : Int} {s : List UInt8} (h : (ptsO s).isSome = true) (hw : ¬ widK k < 0) : vT k s = (ptsL s).all (hasK k) := by
  unfold vT ptsL
  rcases hp : ptsO s with _ | L
  · rw [hp] at h; cases h
  · dsimp only
    rw [decide_eq_true (by omega), Bool.true_and]
    rfl
theorem all_take {p : Nat → Bool} {L : List Nat} {i : Nat} (h : i < L.length) : (L.take (i + 1)).all p = ((L.take i).all p && p L[i]) := by
  rw [List.take_succ_eq_append_getElem h, List.all_append]
  simp
theorem all_not {p : Nat → Bool} {L : List Nat} {i : Nat} (h : i < L.length) (hf : p L[i] = false) : L.all p = false := by
  rw [List.all_eq_false]
  exact ⟨L[i], List.getElem_mem h, by rw [hf]; decide⟩
theorem ptsL_bd {s : List UInt8} {x : Nat} (h : x ∈ ptsL s) : x ≤ 100000000 := by
  unfold ptsL at h
  rcases hp : ptsO s with _ | L
  · rw [hp] at h; cases h
  · rw [hp] at h
    have := scal_true.1 (List.all_eq_true.1 (ptsO_some hp).2 x h)
    omega
theorem ptsL_len (s : List UInt8) : (ptsL s).length ≤ s.length := by
  unfold ptsL
  rcases hp : ptsO s with _ | L
  · exact Nat.zero_le _
  · obtain ⟨h1, h2⟩ := ptsO_some hp
    have := encU_len L h2
    rw [h1] at this
    exact this

set_option maxRecDepth 100000 in
set_option maxHeartbeats 4000000 in
theorem ref_tvalid_any (k : Int) (s : List UInt8) (hz : s.length ≤ 100000) (w : World) :
    Calls Tryd.prog 13 #[tV k s] w fun e w' => e = .returned (.bool (vT k s)) ∧ Below w.heap.size w w' := by
  unfold tV
  have HP := Lib.hid (fun w => pts_any s hz w)
  have HW := Lib.hid (fun w => width_any k w)
  obtain ⟨A, hA⟩ : ∃ A, w.heap.size = A := ⟨_, rfl⟩
  have Z1 := Lib.hid (Blk.new w 23 #[.int .i64 k, .string ⟨s.toArray⟩])
  rw [hA] at Z1
  have Q1 := Lib.hid (bal (Below.refl w.heap.size w) (.cells #[.int .i64 k, .string ⟨s.toArray⟩] 23))
  obtain ⟨b, hb⟩ : ∃ b, vT k s = b := ⟨_, rfl⟩
  rw [hb]
  have HB := Lib.hid hb
  clear hb
  rcases hp : (ptsO s).isSome with _ | _
  · rw [hp] at HP
    obtain rfl : b = false := by rw [← HB.out]; exact vT_none hp
    clear hp
    go_enter Tryd.func13, Tryd.ntmps13
    go_wp2_with fail
    generalize w.alloc (.cells #[.int .i64 k, .string ⟨s.toArray⟩] 23) = w1 at *
    clear hA
    with_reducible refine (HP.out _).mono ?_
    rintro e w2 ⟨a2, c2, rfl, ho, q⟩
    have Q2 := Lib.hid (bthen Q1.out q)
    clear q ho
    go_wp2_with fail
    go_ret
    exact ⟨rfl, Q2.out⟩
  · rw [hp] at HP
    by_cases hw : widK k < 0
    · obtain rfl : b = false := by rw [← HB.out]; exact vT_wid hw
      go_enter Tryd.func13, Tryd.ntmps13
      go_wp2_with fail
      generalize w.alloc (.cells #[.int .i64 k, .string ⟨s.toArray⟩] 23) = w1 at *
      clear hA
      with_reducible refine (HP.out _).mono ?_
      rintro e w2 ⟨a2, c2, rfl, ho, q⟩
      have Q2 := Lib.hid (bthen Q1.out q)
      have Z2 := Lib.hid (Z1.out.below q Z1.out.lt)
      clear q ho
      obtain ⟨z0, z1, zl, zf⟩ := Z2.out.cells2
      go_wp2_with fail
      with_reducible refine (HW.out _).mono ?_
      rintro e w3 ⟨rfl, rfl⟩
      go_wp2_with fail
      go_ret
      exact ⟨rfl, Q2.out⟩
    · have hall := vT_all hp hw
      rw [HB.out] at hall
      have HALL := Lib.hid hall
      have HBD : Hid (∀ x ∈ ptsL s, x ≤ 100000000) := fun x hx => ptsL_bd hx
      have hlen := ptsL_len s
      have HH := Lib.hid (fun (x : Nat) (h : x ≤ 100000000) w => has_any k x h w)
      generalize ptsL s = L at *
      obtain ⟨n, hn⟩ : ∃ n, L.length = n := ⟨_, rfl⟩
      have HN := Lib.hid hn
      rw [hn] at HP hlen
      have hn2 : (n : Int) ≤ 100000 := by omega
      clear hn hp hall hlen
      go_enter Tryd.func13, Tryd.ntmps13
      go_wp2_with fail
      generalize w.alloc (.cells #[.int .i64 k, .string ⟨s.toArray⟩] 23) = w1 at *
      clear hA
      with_reducible refine (HP.out _).mono ?_
      rintro e w2 ⟨a2, c2, rfl, ho, q⟩
      have Q2 := Lib.hid (bthen Q1.out q)
      have Z2 := Lib.hid (Z1.out.below q Z1.out.lt)
      have M2 := Lib.hid ho.uk
      clear q ho
      obtain ⟨z0, z1, zl, zf⟩ := Z2.out.cells2
      go_wp2_with fail
      with_reducible refine (HW.out _).mono ?_
      rintro e w3 ⟨rfl, rfl⟩
      clear z0 z1 zl zf
      go_wp2_with fail
      go_loopw [5] (fun i wr => ∃ j : Nat, j ≤ n ∧ i = .int .i64 j ∧ Hid ((L.take j).all (hasK k) = true) ∧ Blk wr A 23 #[.int .i64 k, .string ⟨s.toArray⟩] ∧ Uk .i64 wr a2 n c2 L ∧ Below w.heap.size w wr) (fun i _ => n - (intOf i).toNat)
      case atStart => exact ⟨0, Nat.zero_le _, rfl, rfl, Z2.out, M2.out, Q2.out⟩
      case round =>
        obtain ⟨j, hj, rfl, HA, hzb, hm, hq⟩ := hrel
        have Z3 := Lib.hid hzb
        have M3 := Lib.hid hm
        have Q3 := Lib.hid hq
        clear hzb hm hq
        have hj0 : (0 : Int) ≤ j := by omega
        by_cases hlt : j < n
        · have hlt2 : (j : Int) < n := by omega
          have hjL : j < L.length := by have := HN.out; omega
          obtain ⟨mb, mo, hml, rfl, hmb, hmc⟩ := M3.out.at_ hlt
          have HST := Lib.hid (all_take (p := hasK k) hjL)
          have HNO := Lib.hid (fun h => all_not (p := hasK k) hjL h)
          have HCALL := Lib.hid (HH.out L[j] (HBD.out _ (List.getElem_mem hjL)) wr.drew)
          obtain ⟨x, hx⟩ : ∃ x, L[j] = x := ⟨_, rfl⟩
          simp only [hx] at HST HNO HCALL hmc
          clear hx hml hjL
          obtain ⟨z0, z1, zl, zf⟩ := Z3.out.cells2
          rcases hh : hasK k x with _ | _
          · rw [hh] at HCALL
            have hbf : b = false := HALL.out.trans (HNO.out hh)
            subst hbf
            go_wp2_with fail
            go_region_held3 (fun w' => w'.cell? ⟨A, 0, none⟩ = some (.int .i64 k) ∧ w'.cell? ⟨mb, mo + j, none⟩ = some (.int .i64 (x : Int))) (first | exact ⟨z0, hmc⟩ | exact ⟨k0, k1⟩ | assumption)
              (first | (go_at_call 33; (with_reducible refine HCALL.out.mono ?_); rintro e w4 ⟨rfl, q⟩; have Q4 := Lib.hid (bthen Q3.out.drew q); have k0 := (q.cell (p := ⟨A, 0, none⟩) zl).trans z0; have k1 := (q.cell (p := ⟨mb, mo + j, none⟩) hmb).trans hmc))
            go_wp2_with fail
            go_ret
            exact ⟨rfl, Q4.out⟩
          · rw [hh] at HCALL HST
            have HA2 : Hid ((L.take (j + 1)).all (hasK k) = true) := by rw [Hid, HST.out, HA.out]; rfl
            go_wp2_with fail
            go_region_held3 (fun w' => w'.cell? ⟨A, 0, none⟩ = some (.int .i64 k) ∧ w'.cell? ⟨mb, mo + j, none⟩ = some (.int .i64 (x : Int))) (first | exact ⟨z0, hmc⟩ | exact ⟨k0, k1⟩ | assumption)
              (first | (go_at_call 33; (with_reducible refine HCALL.out.mono ?_); rintro e w4 ⟨rfl, q⟩; have Q4 := Lib.hid (bthen Q3.out.drew q); have Z4 := Lib.hid ((Z3.out.drewN 1).below q zl); have M4 := Lib.hid (M3.out.below (below_of_drew q)); have k0 := (q.cell (p := ⟨A, 0, none⟩) zl).trans z0; have k1 := (q.cell (p := ⟨mb, mo + j, none⟩) hmb).trans hmc))
            clear k0 k1
            go_wp2
            go_roundw
            case rel => exact ⟨j + 1, by omega, by go_num, HA2, Z4.out, M4.out, Q4.out⟩
            case measure => simp [intOf]; omega
        · obtain rfl : j = n := by omega
          have hlt2 : ¬ (j : Int) < j := by omega
          have hbt : b = true := by
            rw [HALL.out, ← HA.out, List.take_of_length_le (by have := HN.out; omega)]
          subst hbt
          go_wp2_with fail
          go_ret
          exact ⟨rfl, Q3.out⟩
end Go.Proofs.YtkmpmphabohkkaaDoor
