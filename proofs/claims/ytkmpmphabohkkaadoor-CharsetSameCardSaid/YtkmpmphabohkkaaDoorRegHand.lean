/-
  A drawn region walked by hand, over a condition on the world that every operation keeps: one operation taken, or run, at a time (the operation's fields are read off by unification).
-/
import Derived.Deep.RegionHeld3
import Derived.Test.YtkmpmphabohkkaaDoorWords
namespace Go.Proofs.YtkmpmphabohkkaaDoor
variable {P : Program} {md : Region.Mode} {ops : Array Oper} {Q : Exit → Act → World → Prop} {S : World → Prop} {i : Nat} {d : Option Tmp} {o : Op} {t : TypeId} {p : String} {f : Array Edge} {g : Option (Nat × Bool)} {fuel : Nat} {listed : Array Bool} {a : Act} {w : World}

theorem hand_take {v : Value} (hi : ops[i]? = some { dst := d, op := o, type := t, pos := p, after := f, guard := g })
    (hs : Region.noSelect ops = true) (hf : Region.free md ops listed i = true) (hr : (Region.ready md ops listed).contains i = true)
    (hQ : ∀ c a w, Q (.panic c) (a.put d v) w → Q (.panic c) a w) (hy : YieldsIf P ops S { dst := d, op := o, type := t, pos := p, after := f, guard := g } v a) (hS : S w)
    (h : wpAnyH P md ops Q S fuel (listed.setIfInBounds i true) (a.put d v) w) : wpAnyH P md ops Q S (fuel + 1) listed a w :=
  wpAnyH_take hi hs hf hr hQ hy hS h
theorem hand_run (hi : ops[i]? = some { dst := d, op := o, type := t, pos := p, after := f, guard := g }) (hr : Region.ready md ops listed = [i])
    (h : ∀ K' : Act → World → Prop, Shut (∀ a w, S w → (S w → wpAnyH P md ops Q S fuel (listed.setIfInBounds i true) a w) → K' a w) →
      if Region.wanted { dst := d, op := o, type := t, pos := p, after := f, guard := g } (yielded ops a.tmps) = true then Oper.wp P { dst := d, op := o, type := t, pos := p, after := f, guard := g } a w K' Q else K' (a.put d undef) w) : wpAnyH P md ops Q S (fuel + 1) listed a w :=
  wpAnyH_ready hr (by simp) (AllReadyH.cons hi h AllReadyH.nil)
end Go.Proofs.YtkmpmphabohkkaaDoor
