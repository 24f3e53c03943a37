/-
  Contract of the program's Encode of a tree.
-/
import Derived.Test.YtgccjdhkpgmnoaaTreeSize
namespace Go.Proofs.Ytgccjdhkpgmnoaa
open Go.RowKit

/-- a slice of one node, just made -/
theorem kds_lit {w : World} {R : Nat → Prop} {cs : List Value} {t : Tree} {e : TypeId} (h : NdCs w R cs t) : Kds (w.alloc (.cells cs.toArray e)) (fun _ => True) (some ⟨w.heap.size, 0, none⟩) 1 1 [t] := by
  refine ⟨rfl, Nat.le_refl _, by decide, fun _ => ⟨w.heap.size, 0, rfl, by simp, trivial, ?_⟩⟩
  unfold KdsAt
  refine ⟨NdAt.of ((h.below (bal (Below.refl _ w) _)).weak fun _ _ _ => trivial) fun j v hj => ?_, by unfold KdsAt; trivial⟩
  rw [Nat.zero_add, (Blk.new w e cs.toArray).cell j]
  simpa using hj

theorem encode_tree_bad {t : Tree} {w : World} {R : Nat → Prop} {cs : List Value} (hv : (okT t && decide (depT t ≤ 16)) = false) (hN : NdCs w R cs t) :
    Calls Try.prog 16 #[.agg cs.toArray] w fun e w' => e = .returned (.tuple #[.slice none 0 0, .int .i64 8]) ∧ Below w.heap.size w w' := by
  have H1 := Lib.hid (fun w' (h : Below w.heap.size w w') => valid_any (w := w') (hN.below h))
  rw [hv] at H1
  cases t with
  | node c n k l ks =>
    obtain ⟨a, m, d, ka, kn, kc, rfl, _⟩ := hN.parts
    clear hN hv
    go_enter Try.func16, Try.ntmps16
    go_wp2_with fail
    refine (H1.out _ (bal (Below.refl _ w) _)).mono ?_
    rintro e w2 ⟨rfl, q⟩
    have Q2 := Lib.hid (bthen (bal (Below.refl _ w) _) q)
    clear q H1
    go_wp2_with fail
    go_ret2
    exact ⟨rfl, Q2.out⟩
set_option maxHeartbeats 1000000 in
theorem encode_tree_good {t : Tree} {w : World} {R : Nat → Prop} {cs : List Value} (hs : sizT t ≤ 100000) (hv : (okT t && decide (depT t ≤ 16)) = true) (hN : NdCs w R cs t) :
    Calls Try.prog 16 #[.agg cs.toArray] w fun e w' => ∃ a' c', e = .returned (.tuple #[.slice a' (encT t).length c', .int .i64 0]) ∧ Own w' w.heap.size 5 a' (encT t).length c' (encT t) ∧ Below w.heap.size w w' := by
  have H1 := Lib.hid (fun w' (h : Below w.heap.size w w') => valid_any (w := w') (hN.below h))
  rw [hv] at H1
  rw [Bool.and_eq_true] at hv
  have hs1 : sizTs [t] ≤ 100000 := by unfold sizTs; unfold sizTs; omega
  have ho1 : okTs [t] = true := by unfold okTs; rw [hv.1]; unfold okTs; rfl
  have H2 := Lib.hid (fun w' (h : Kds w' (fun _ => True) (some ⟨w'.heap.size - 1, 0, none⟩) 1 1 [t]) => size_any _ [t] w' _ _ _ _ hs1 (Nat.le_refl _) h)
  have H3 := Lib.hid (fun w' B (h : Kds w' (fun _ => True) (some ⟨B, 0, none⟩) 1 1 [t]) => encodings_any _ [t] w' _ _ _ _ hs1 (Nat.le_refl _) ho1 h)
  have H2 := Lib.hid (fun w' B (h : Kds w' (fun _ => True) (some ⟨B, 0, none⟩) 1 1 [t]) => size_any _ [t] w' _ _ _ _ hs1 (Nat.le_refl _) h)
  have hK := Lib.hid (fun w' (h : Below w.heap.size w w') => kds_lit (e := 26) (hN.below h))
  have he : encTs [t] = encT t := by rw [encTs_cons, encTs_nil, List.append_nil]
  rw [he] at H2 H3
  cases t with
  | node c n k l ks =>
    obtain ⟨a, m, d, ka, kn, kc, rfl, _⟩ := hN.parts
    clear hN he hv hs1 ho1
    generalize encT (.node c n k l ks) = Y at *
    go_enter Try.func16, Try.ntmps16
    go_wp2_with fail
    refine (H1.out _ (bal (Below.refl _ w) _)).mono ?_
    rintro e w2 ⟨rfl, q⟩
    have Q2 := Lib.hid (bthen (bal (Below.refl _ w) _) q)
    have B2 := Lib.hid ((Blk.new w 26 #[.int .i64 c, .int .i64 n, .bool k, .slice a m d, .slice ka kn kc]).below q (by simp))
    obtain ⟨z0, z1, z2, z3, z4, zl⟩ := five B2.out
    have K2 := Lib.hid (hK.out w2 Q2.out)
    clear q H1 hK
    go_wp2_with fail
    refine (H2.out _ _ K2.out).mono ?_
    rintro e w3 ⟨rfl, q⟩
    have Q3 := Lib.hid (bthen (bal Q2.out _) q)
    have K3 := Lib.hid (K2.out.below q)
    clear q H2
    go_wp2_with fail
    refine (H3.out _ _ K3.out).mono ?_
    rintro e w4 ⟨a3, c3, rfl, ho, q⟩
    go_wp2_with fail
    go_ret2
    exact ⟨a3, c3, rfl, ho.more Q3.out.size, bthen Q3.out q⟩
end Go.Proofs.Ytgccjdhkpgmnoaa
