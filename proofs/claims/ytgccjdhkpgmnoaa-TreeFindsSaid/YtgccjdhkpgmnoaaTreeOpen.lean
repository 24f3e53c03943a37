/-
  A tree that comes in as an argument, opened: over any program with the types of a node.
-/
import Derived.Test.YtgccjdhkpgmnoaaTreeAt
import Derived.OpenShut
import Derived.WalkKit
import Derived.ProofKit
import Derived.ChangeOld
import Derived.Deep.Slices
import Derived.Deep.Fields
namespace Go.Proofs.Ytgccjdhkpgmnoaa
open Go.ChangeShapes Go.WideShapes Go.ChangeAt Go.RowKit Go.Deep

section
variable {H : Type} {enc : TypeId × Value → H} {P : Program} {w : World} {base : Nat} {spare : Nat → Bool} {held : Bool} {tI tB tS tU tK tN : TypeId} {f0 f1 f2 f3 f4 : Field}

theorem addr_plain {w : World} {x : Addr} {v : Value} (h : w.cell? x = some v) : x = ⟨x.block, x.off, none⟩ ∧ x.block < w.heap.size := by
  obtain ⟨b, o, s⟩ := x
  unfold World.cell? at h
  rcases Nat.lt_or_ge b w.heap.size with hb | hb
  · refine ⟨?_, hb⟩
    cases s with
    | none => rfl
    | some s =>
      simp only at h
      split at h
      · simp at h
      · cases h
  · simp only at h
    rw [Array.getElem?_eq_none hb] at h
    cases h
theorem plus_plain (b o i : Nat) : (⟨b, o, none⟩ : Addr).add i = ⟨b, o + i, none⟩ := by unfold Addr.add; split <;> simp_all

/-- bytes, opened -/
theorem bs_open (hS : P.underlying tS = some (.slice tU)) (hU : P.underlying tU = some (.int .u8)) (hc : P.cellsOf tU = 1) {fuel : Nat} {cs : List Value} {x : DataW H × List MemPlace} (h : DataW.trod enc P w base spare held fuel tS cs = some x) :
    ∃ a n c l, cs = [.slice a n c] ∧ Bs w a n c l := by
  rcases open_ints hS hU hc h with ⟨hcs, _⟩ | ⟨y, n, c, zs, hcs, _, hl, hm, hz, _, hcell, hwz⟩
  · exact ⟨none, 0, 0, [], hcs, Bs.nil_ w⟩
  · have hz' : n ≤ zs.length := by
      rw [hz]
      split <;> omega
    have hlen : ((zs.take n).map fun z => UInt8.ofNat z.toNat).length = n := by rw [List.length_map, List.length_take]; omega
    refine ⟨some y, n, c, (zs.take n).map fun z => UInt8.ofNat z.toNat, hcs, hlen, hl, hm, fun hn => ?_⟩
    have h0 := hcell 0 (by omega)
    have e0 : y.add 0 = y := by unfold Addr.add; simp
    rw [e0] at h0
    obtain ⟨hx, hb⟩ := addr_plain h0
    refine ⟨y.block, y.off, by rw [← hx], hb, fun i hi => ?_⟩
    rw [hlen] at hi
    have hi' : i < zs.length := by omega
    have hc := hcell i hi'
    have e1 : y.add i = ⟨y.block, y.off + i, none⟩ := by have := plus_plain y.block y.off i; rwa [← hx] at this
    rw [e1] at hc
    rw [hc]
    have hw := hwz _ (List.getElem_mem hi')
    have hbd := bounds_u8 hw
    have e2 : zs.getD i 0 = zs[i] := by rw [List.getD_eq_getElem?_getD, List.getElem?_eq_getElem hi']; rfl
    rw [e2, List.getElem_map, List.getElem_take]
    congr 2
    rw [UInt8.toNat_ofNat']
    omega

theorem choose_list {α : Type} {p : Nat → α → Prop} : ∀ n : Nat, (∀ i, i < n → ∃ v, p i v) → ∃ ts : List α, ts.length = n ∧ ∀ (i : Nat) (h : i < ts.length), p i ts[i] := by
  intro n
  induction n with
  | zero => intro _; exact ⟨[], rfl, fun i h => absurd h (by simp)⟩
  | succ n ih =>
    intro h
    obtain ⟨ts, h1, h2⟩ := ih (fun i hi => h i (by omega))
    obtain ⟨v, hv⟩ := h n (by omega)
    refine ⟨ts ++ [v], by simp [h1], fun i hi => ?_⟩
    rcases Nat.lt_or_ge i ts.length with hlt | hge
    · rw [List.getElem_append_left hlt]
      exact h2 i hlt
    · have : i = n := by simp at hi; omega
      subst this
      rw [List.getElem_append_right (by omega)]
      simpa [h1] using hv

/-- a node, opened -/
theorem node_open (hN : P.underlying tN = some (.struct #[f0, f1, f2, f3, f4])) (hone : oneCellFields P #[f0, f1, f2, f3, f4] = true) (hC : P.cellsOf tN = 5)
    (e0 : P.underlying f0.type = some (.int .i64)) (e1 : P.underlying f1.type = some (.int .i64)) (e2 : P.underlying f2.type = some .bool) (e3 : P.underlying f3.type = some (.slice tU)) (e4 : P.underlying f4.type = some (.slice tN))
    (hU : P.underlying tU = some (.int .u8)) (hcU : P.cellsOf tU = 1) (fuel : Nat) :
    ∀ (cs : List Value) (x : DataW H × List MemPlace), DataW.trod enc P w base spare held fuel tN cs = some x → ∃ t, NdCs w (fun _ => True) cs t := by
  induction fuel using Nat.strongRecOn with
  | _ fuel ih =>
  intro cs x h
  obtain ⟨xs, n, hfn, _, hlen, hxl, hf⟩ := DataW.trod_struct hN h
  rw [hC] at hlen
  match cs, hlen with
  | [v0, v1, v2, v3, v4], _ =>
    match xs, hxl with
    | [y0, y1, y2, y3, y4], _ =>
      obtain ⟨o0, k0⟩ := hone_of hone 0 f0 rfl
      obtain ⟨o1, k1⟩ := hone_of hone 1 f1 rfl
      obtain ⟨o2, k2⟩ := hone_of hone 2 f2 rfl
      obtain ⟨o3, k3⟩ := hone_of hone 3 f3 rfl
      obtain ⟨o4, k4⟩ := hone_of hone 4 f4 rfl
      have t0 : DataW.trod enc P w base spare held n f0.type [v0] = some y0 := by simpa [o0, k0] using hf 0 f0 rfl
      have t1 : DataW.trod enc P w base spare held n f1.type [v1] = some y1 := by simpa [o1, k1] using hf 1 f1 rfl
      have t2 : DataW.trod enc P w base spare held n f2.type [v2] = some y2 := by simpa [o2, k2] using hf 2 f2 rfl
      have t3 : DataW.trod enc P w base spare held n f3.type [v3] = some y3 := by simpa [o3, k3] using hf 3 f3 rfl
      have t4 : DataW.trod enc P w base spare held n f4.type [v4] = some y4 := by simpa [o4, k4] using hf 4 f4 rfl
      obtain ⟨z0, r0, _⟩ := DataW.trod_int e0 t0
      obtain ⟨z1, r1, _⟩ := DataW.trod_int e1 t1
      obtain ⟨z2, r2, _⟩ := DataW.trod_bool e2 t2
      obtain ⟨a, m, c, l, r3, hb⟩ := bs_open e3 hU hcU t3
      injection r0 with r0
      injection r1 with r1
      injection r2 with r2
      injection r3 with r3
      subst r0; subst r1; subst r2; subst r3
      rcases DataW.trod_slice e4 t4 with ⟨r4, _⟩ | ⟨ka, kn, kc, elems, rest, n', hn', r4, _, _, hle, hmx, hel, hat, _⟩
      · injection r4 with r4
        subst r4
        exact ⟨.node z0 z1 z2 l [], a, m, c, none, 0, 0, rfl, ⟨hb, fun _ _ _ => trivial⟩, Kds.nil_ w _⟩
      · injection r4 with r4
        subst r4
        have hk : ∀ i, i < kn → ∃ t : Tree, ∃ cs', w.cells? base (ka.add (i * 5)) 5 = some cs' ∧ NdCs w (fun _ => True) cs' t := by
          intro i hi
          have hi' := hat i hi
          rw [hC] at hi'
          rw [List.getElem?_eq_getElem (by omega)] at hi'
          obtain ⟨cs', g1, g2⟩ := Option.bind_eq_some_iff.1 hi'
          obtain ⟨t, ht⟩ := ih n' (by omega) cs' _ g2
          exact ⟨t, cs', g1, ht⟩
        obtain ⟨ts, hts, hall⟩ := choose_list kn hk
        refine ⟨.node z0 z1 z2 l ts, a, m, c, some ka, kn, kc, rfl, ⟨hb, fun _ _ _ => trivial⟩, hts, hle, hmx, fun hpos => ?_⟩
        obtain ⟨cs0, g0, h0⟩ := hall 0 (by omega)
        obtain ⟨_, hl0, hc0⟩ := World.cells?_some g0
        have hfirst := hc0 0 (by omega)
        rw [List.getElem?_eq_getElem (by omega)] at hfirst
        have ez : (ka.add (0 * 5)).add 0 = ka := by unfold Addr.add; simp
        rw [ez] at hfirst
        obtain ⟨hkx, hkb⟩ := addr_plain hfirst
        refine ⟨ka.block, ka.off, by rw [← hkx], hkb, trivial, KdsAt.of ts _ _ fun i hi => ?_⟩
        obtain ⟨cs', g1, ht⟩ := hall i hi
        obtain ⟨_, hl1, hc1⟩ := World.cells?_some g1
        refine NdAt.of ht fun j v hj => ?_
        have hjl : j < 5 := by
          rcases Nat.lt_or_ge j cs'.length with hlt | hge
          · omega
          · rw [List.getElem?_eq_none hge] at hj; cases hj
        have hcj := hc1 j hjl
        rw [hj] at hcj
        have ea : (ka.add (i * 5)).add j = ⟨ka.block, ka.off + i * 5 + j, none⟩ := by
          have h1 := plus_plain ka.block ka.off (i * 5)
          rw [← hkx] at h1
          rw [h1, plus_plain]
        rw [ea] at hcj
        exact hcj
end
end Go.Proofs.Ytgccjdhkpgmnoaa
