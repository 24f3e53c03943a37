/-
  Contract of the program's hasAll: all characters of a string belong to a kind.
-/
import Derived.Test.YtkmpmphabohkkaaDoorChPrint2
import Derived.Test.YtkmpmphabohkkaaDoorChValid
import Derived.Lib.LaidU8T
import Derived.Shelf.Unicode.ValidAny
namespace Go.Proofs.YtkmpmphabohkkaaDoor
open Go.RowKit

/-- what the walks read of the world: the library's tables on UTF-8 -/
def Wd (w : World) : Prop := Lib.Utf8Tabs 0 1 w
theorem Wd.below {w w' : World} (h : Wd w) (hb : Below w.heap.size w w') : Wd w' := Utf8Tabs_below h hb
theorem vstr_any (s : List UInt8) (hz : s.length ≤ 1000000) (w : World) (hW : Wd w) :
    Calls Tryd.prog 47 #[.string ⟨s.toArray⟩] w fun e w' => e = .returned (.bool (ptsO s).isSome) ∧ Below w.heap.size w w' := by
  have h := Tryd.utf8_ValidString ⟨s.toArray⟩ w (by show s.length ≤ _; omega) hW
  rw [show Lib.validD (⟨s.toArray⟩ : ByteArray).data.toList = (ptsO s).isSome from valid_is s] at h
  exact h
theorem vT_is {k : Int} {s : List UInt8} {L : List Nat} (h : ptsO s = some L) (hk : 0 ≤ widK k) : vT k s = L.all (hasK k) := by
  unfold vT
  rw [h]
  dsimp only
  rw [decide_eq_true hk, Bool.true_and]
theorem all_tk {p : Nat → Bool} {L : List Nat} {j : Nat} (hj : j < L.length) (h : (L.take j).all p = true) (hx : p L[j] = true) : (L.take (j + 1)).all p = true := by
  rw [List.take_succ_eq_append_getElem hj, List.all_append, h, List.all_cons, hx]
  rfl
theorem all_nt {p : Nat → Bool} {L : List Nat} {j : Nat} (hj : j < L.length) (hx : p L[j] = false) : L.all p = false := by
  rw [List.all_eq_false]
  exact ⟨L[j], List.getElem_mem hj, by rw [hx]; decide⟩
/-- the next character of a string, and where the one behind it stands -/
theorem dec_at {L : List Nat} (h : L.all scal = true) {j : Nat} (hj : j < L.length) :
    (encU (L.take j)).length < (⟨(encU L).toArray⟩ : ByteArray).size ∧ Utf8.decode ⟨(encU L).toArray⟩ (encU (L.take j)).length = (L[j], (u8O L[j]).length) ∧ (encU (L.take j)).length + (u8O L[j]).length = (encU (L.take (j + 1))).length := by
  have e : encU L = encU (L.take j) ++ (u8O L[j] ++ encU (L.drop (j + 1))) := by
    rw [← encU_cons, ← encU_append, ← List.drop_eq_getElem_cons hj, List.take_append_drop]
  have hs : scal L[j] = true := List.all_eq_true.1 h _ (List.getElem_mem hj)
  have hne := u8O_ne hs
  have hp : 0 < (u8O L[j]).length := by cases hu : u8O L[j] with | nil => exact absurd hu hne | cons _ _ => simp
  refine ⟨?_, ?_, ?_⟩
  · show _ < (encU L).length
    rw [e, List.length_append, List.length_append]
    omega
  · rw [e]
    exact decode_scal _ _ hs
  · rw [List.take_succ_eq_append_getElem hj, encU_snoc, List.length_append]

set_option maxRecDepth 100000 in
set_option maxHeartbeats 2000000 in
theorem hasall_any (k : Int) (hk : 0 ≤ widK k) (s : List UInt8) (hz : s.length ≤ 1000000) (w : World) (hW : Wd w) :
    Calls Tryd.prog 28 #[.agg #[fnK k, .int .i64 (wdK k)], .string ⟨s.toArray⟩] w fun e w' => e = .returned (.bool (vT k s)) ∧ Below w.heap.size w w' := by
  obtain ⟨f, hf, hen, HF⟩ := fn_any k hk
  rw [hf]
  generalize wdK k = N at *
  have HV := Lib.hid (fun w hw => vstr_any s hz w hw)
  obtain ⟨R, hR⟩ : ∃ R, w.heap.size = R := ⟨_, rfl⟩
  have Z1 := Lib.hid (Blk.new w 47 #[.func (.func f) #[] #[], .int .i64 N])
  rw [hR] at Z1
  have Q1 := Lib.hid (bal (Below.refl w.heap.size w) (.cells #[.func (.func f) #[] #[], .int .i64 N] 47))
  have W1 := Lib.hid (hW.below Q1.out)
  rcases hp : ptsO s with _ | L
  · have hv : vT k s = false := by unfold vT; rw [hp]
    rw [hv]
    rw [hp] at HV
    clear hv hp hf
    go_enter Tryd.func28, Tryd.ntmps28
    go_wp2_with fail
    generalize w.alloc (.cells #[.func (.func f) #[] #[], .int .i64 N] 47) = w1 at *
    with_reducible refine (HV.out _ W1.out).mono ?_
    rintro e w2 ⟨rfl, q⟩
    have Q2 := Lib.hid (bthen Q1.out q)
    clear q
    go_wp2_with fail
    go_ret
    exact ⟨rfl, Q2.out⟩
  · rw [vT_is hp hk]
    rw [hp] at HV
    obtain ⟨rfl, hsc⟩ := ptsO_some hp
    have HSC : Hid (∀ x ∈ L, scal x = true) := List.all_eq_true.1 hsc
    have HD := Lib.hid (fun j hj => dec_at hsc (j := j) hj)
    have HN := Lib.hid (fun j hj => all_nt (p := hasK k) (L := L) (j := j) hj)
    have HT := Lib.hid (fun j hj => all_tk (p := hasK k) (L := L) (j := j) hj)
    have HF2 := Lib.hid (fun (x : Nat) w => HF x w)
    have HE := Lib.hid (fun x : Nat => hasI_nat k x)
    have hsz : (⟨(encU L).toArray⟩ : ByteArray).size = (encU L).length := rfl
    obtain ⟨B, hB⟩ : ∃ B, L.all (hasK k) = B := ⟨_, rfl⟩
    rw [hB]
    have HBB := Lib.hid hB
    clear hp hf HF hz hB
    go_enter Tryd.func28, Tryd.ntmps28
    go_wp2_with fail
    generalize w.alloc (.cells #[.func (.func f) #[] #[], .int .i64 N] 47) = w1 at *
    with_reducible refine (HV.out _ W1.out).mono ?_
    rintro e w2 ⟨rfl, q⟩
    have Q2 := Lib.hid (bthen Q1.out q)
    have Z2 := Lib.hid (Z1.out.below q Z1.out.lt)
    clear q
    obtain ⟨I, hI⟩ : ∃ I, w2.heap.size = I := ⟨_, rfl⟩
    go_wp2_with fail
    have HGE : Hid (w.heap.size ≤ I) := by rw [Hid, ← hI]; exact Q2.out.size
    have HNE : Hid (R ≠ I) := by rw [Hid, ← hI]; exact Nat.ne_of_lt Z2.out.lt
    go_loopw [] (fun wr => ∃ j, j ≤ L.length ∧ (L.take j).all (hasK k) = true ∧ wr.heap[I]? = some (.stringIter ⟨(encU L).toArray⟩ (encU (L.take j)).length) ∧ Blk wr R 47 #[.func (.func f) #[] #[], .int .i64 N] ∧ Below w.heap.size w wr) (fun wr => (encU L).length - wr.iterPos I)
    case atStart =>
      refine ⟨0, Nat.zero_le _, rfl, ?_, ?_, ?_⟩
      · rw [← hI]
        exact World.iter_heap w2 _ 0
      · exact Z2.out.below (bal (Below.refl _ w2) _) Z2.out.lt
      · exact bal Q2.out _
    case round =>
      obtain ⟨j, hj, hal, hit, hz, hq⟩ := hrel
      have hlt : I < wr.heap.size := (Array.getElem?_eq_some_iff.1 hit).1
      by_cases h : j < L.length
      · obtain ⟨d1, d2, d3⟩ := HD.out j h
        have hnx := fun ty => Lib.run_next_any_at (P := Tryd.prog) wr I _ _ ty hit d1
        rw [d2] at hnx
        dsimp only at hnx
        rw [d3] at hnx
        have Q3 := Lib.hid (Lib.below_iterAt hq (k := I) HGE.out ⟨(encU L).toArray⟩ (encU (L.take (j + 1))).length)
        have Z3 : Hid (Blk (wr.iterAt I ⟨(encU L).toArray⟩ (encU (L.take (j + 1))).length) R 47 #[.func (.func f) #[] #[], .int .i64 N]) := (Lib.iterAt_other wr I R _ _ HNE.out).trans hz
        have I3 := Lib.hid (Lib.iterAt_heap wr I ⟨(encU L).toArray⟩ (encU (L.take j)).length (encU (L.take (j + 1))).length hit)
        have M1 : Hid (wr.iterPos I = (encU (L.take j)).length) := by unfold Hid World.iterPos; rw [hit]
        have hN := HN.out j h
        have hT := HT.out j h hal
        have HX := Lib.hid (HF2.out L[j])
        rw [Hid, HE.out] at HX
        have HX' := Lib.hid HX
        clear HX
        have M2 : Hid ((encU (L.take j)).length < (encU (L.take (j + 1))).length ∧ (encU (L.take j)).length < (encU L).length) := ⟨by have hne := u8O_ne (HSC.out _ (List.getElem_mem h)); have hp : 0 < (u8O L[j]).length := List.length_pos_iff.2 hne; omega, d1⟩
        generalize wr.iterAt I ⟨(encU L).toArray⟩ (encU (L.take (j + 1))).length = w3 at *
        obtain ⟨z0, z1, zl, zf⟩ := Z3.out.cells2
        rcases hb : hasK k L[j] with _ | _
        · rw [hb] at HX'
          obtain rfl : B = false := by rw [← HBB.out]; exact hN hb
          clear hN hT d1 d2 d3 hb
          generalize L[j] = x at *
          go_wp2_with (go_at_fn f; refine (HX'.out _).mono ?_)
          rintro e w4 ⟨rfl, q⟩
          have Q4 := Lib.hid (bthen Q3.out q)
          clear q
          go_wp2_with fail
          go_ret
          exact ⟨rfl, Q4.out⟩
        · rw [hb] at HX'
          have hall := Lib.hid (hT hb)
          clear hN hT d1 d2 d3 hb
          generalize L[j] = x at *
          go_wp2_with (go_at_fn f; refine (HX'.out _).mono ?_)
          rintro e w4 ⟨rfl, q⟩
          have Q4 := Lib.hid (bthen Q3.out q)
          have Z4 := Lib.hid (Z3.out.below q Z3.out.lt)
          have I4 : Hid (w4.heap[I]? = _) := (q.block I (Array.getElem?_eq_some_iff.1 I3.out).1).trans I3.out
          clear q
          go_wp2_with fail
          go_roundw
          case rel => exact ⟨j + 1, h, hall.out, I4.out, Z4.out, Q4.out⟩
          case measure =>
            have e4 : w4.iterPos I = (encU (L.take (j + 1))).length := by unfold World.iterPos; rw [I4.out]
            rw [e4, M1.out]
            have := M2.out
            omega
      · obtain rfl : j = L.length := by omega
        rw [List.take_length] at hal hit
        have hnx := fun ty => Lib.run_next_end_at (P := Tryd.prog) wr I _ _ ty hit (by show ¬ (encU L).length < (encU L).length; omega)
        obtain rfl : B = true := by rw [← HBB.out]; exact hal
        clear hit hz hlt
        go_wp2_with fail
        go_ret
        exact ⟨rfl, hq⟩
end Go.Proofs.YtkmpmphabohkkaaDoor
