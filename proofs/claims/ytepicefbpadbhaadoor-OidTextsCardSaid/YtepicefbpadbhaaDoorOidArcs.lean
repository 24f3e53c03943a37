/-
  Contract of Arcs (of the program): a range over strings.SplitSeq.
-/
import Derived.Test.YtepicefbpadbhaaDoorOidSplit
import Derived.Maps.AppendAt
namespace Go.Proofs.YtepicefbpadbhaaDoor
open Go.RowKit Go.Shelf
attribute [local go_sem] Oper.semAt_some

theorem split_len : ∀ l : List UInt8, (splitO l).length ≤ l.length + 1
  | [] => by simp [splitO]
  | x :: l => by
    have ih := split_len l
    unfold splitO
    split
    · simp only [List.length_cons]; omega
    · split
      · simp
      · rename_i s r hs
        rw [hs] at ih
        simp only [List.length_cons] at *
        omega
theorem split_part : ∀ (l : List UInt8), ∀ x ∈ splitO l, x.length ≤ l.length
  | [] => by simp [splitO]
  | y :: l => by
    have ih := split_part l
    intro x hx
    unfold splitO at hx
    split at hx
    · rcases List.mem_cons.1 hx with rfl | hx
      · simp
      · have := ih x hx
        simp only [List.length_cons]
        omega
    · split at hx
      · simp only [List.mem_singleton] at hx
        subst hx
        simp
      · rename_i s r hs
        rw [hs] at ih
        rcases List.mem_cons.1 hx with rfl | hx
        · have := ih s (by simp)
          simp only [List.length_cons]
          omega
        · have := ih x (by simp [hx])
          simp only [List.length_cons]
          omega
theorem arcsAll_len : ∀ {ss : List (List UInt8)} {L : List Nat}, arcsAll ss = some L → L.length = ss.length := by
  intro ss L h
  have := congrArg List.length (arcsAll_some h).1
  simpa using this
theorem arcsAll_snoc {pre : List (List UInt8)} {L : List Nat} {x : List UInt8} {n : Nat} (h : arcsAll pre = some L) (hx : arcOf x = some n) : arcsAll (pre ++ [x]) = some (L ++ [n]) := by
  induction pre generalizing L with
  | nil =>
    injection h with h
    subst h
    show arcsAll [x] = _
    rw [arcsAll, hx]
    rfl
  | cons y pre ih =>
    rw [List.cons_append]
    rw [arcsAll] at h ⊢
    cases hy : arcOf y with
    | none => rw [hy] at h; cases h
    | some q =>
      rw [hy] at h
      cases hp : arcsAll pre with
      | none => rw [hp] at h; cases h
      | some M =>
        rw [hp] at h
        injection h with h
        subst h
        rw [ih hp]
        rfl
theorem arcsAll_bad {pre post : List (List UInt8)} {x : List UInt8} (hx : arcOf x = none) : arcsAll (pre ++ x :: post) = none := by
  induction pre with
  | nil => show arcsAll (x :: post) = _; rw [arcsAll, hx]
  | cons y pre ih =>
    rw [List.cons_append, arcsAll]
    cases arcOf y with
    | none => rfl
    | some q => rw [ih]
/-- a row stays where a block that is no cells is turned -/
theorem OwnK.turn {k : IntKind} {W W' : World} {B : Nat} {e : TypeId} {a : Option Addr} {n c : Nat} {L : List Nat} {row : Option Nat} (h : OwnK k W B e a n c L) (hg : W.grownBy W' row) (hr : ∀ r, row = some r → ∃ o : Obj, W.heap[r]? = some o ∧ o.isCells = false) : OwnK k W' B e a n c L := by
  refine h.keep fun x hx => hg.block _ (h.base x hx).2 fun e' => ?_
  obtain ⟨o, ho, hc⟩ := hr x.block e'.symm
  rcases h.2 with ⟨hv, _⟩ | ⟨g, cap, cur, hv, _, hh, _⟩
  · injection hv with h1
    subst h1
    cases hx
  · injection hv with h1
    subst h1
    injection hx with hx
    subst hx
    rw [hh] at ho
    cases ho
    cases hc
theorem boxed_turn {W W' : World} {row : Option Nat} {B : Nat} {t : TypeId} {v : Value} (h : Boxed W B t v) (hg : W.grownBy W' row) (hr : ∀ r, row = some r → ∃ o : Obj, W.heap[r]? = some o ∧ o.isCells = false) : Boxed W' B t v :=
  h.kept hg fun e => by
    obtain ⟨o, ho, hc⟩ := hr B e.symm
    rw [show W.heap[B]? = _ from h] at ho
    cases ho
    cases hc
theorem keepsOthers_of_below {W W' : World} (h : Below W.heap.size W W') : KeepsOthers W W' :=
  ⟨h.size, fun k _ hk _ => (h.block k (Array.getElem?_eq_some_iff.1 hk).1).trans hk⟩
theorem boxed_below {W W' : World} {n B : Nat} {t : TypeId} {v : Value} (h : Boxed W B t v) (hb : Below n W W') (hB : B < n) : Boxed W' B t v := (hb.block B hB).trans h
theorem boxed_store {W : World} {B C : Nat} {t : TypeId} {v u : Value} (h : Boxed W B t v) (hne : B ≠ C) : Boxed (W.setCell ⟨C, 0, none⟩ u) B t v := (Below.heap_setCell _ _ _ B (by show B ≠ C; omega)).trans h

theorem ownK_cells {k : IntKind} {W : World} {B : Nat} {e : TypeId} {a : Option Addr} {n c : Nat} {L : List Nat} (h : OwnK k W B e a n c L) {j : Nat} {o : Obj} (ej : (Value.slice a n c).ownBlock = some j) (hj : W.heap[j]? = some o) : o.isCells = true := by
  rcases h.2 with ⟨hv, _⟩ | ⟨g, cap, cur, hv, _, hh, _⟩
  · rw [hv] at ej
    simp [Value.ownBlock] at ej
  · rw [hv] at ej
    obtain rfl : g = j := by simpa [Value.ownBlock] using ej
    rw [hh] at hj
    cases hj
    rfl
theorem results_cells2 {fn : Func} {p q : Tmp} {t u : TypeId} (h : fn.results = #[.cell p t, .cell q u]) (tmps : Array Value) (P : Program) (w : World) {A B : Addr} {x y : Value}
    (hp : tmps[p]? = some (.pointer (some A))) (hq : tmps[q]? = some (.pointer (some B))) (ha : (isAgg t).run P w = .ok false w) (hb : (isAgg u).run P w = .ok false w) (hx : w.cell? A = some x) (hy : w.cell? B = some y) :
    (results fn tmps).run P w = .ok (.tuple #[x, y]) w := by
  simp only [results, h]
  simp [Sem.run_bind, Result.andThen, hp, hq, asAddr, loadVar, ha, hb, hx, hy]
/-- between two rounds of Arcs -/
def ArcI (w : World) (H : Nat) (pre : List (List UInt8)) (W : World) : Prop :=
  ∃ a c L, arcsAll pre = some L ∧ Boxed W (H + 2) 22 (.slice a L.length c) ∧ OwnK .u32 W (H + 6) 45 a L.length c L ∧ Boxed W H 22 (.slice none 0 0) ∧ Boxed W (H + 1) 24 (.int .i64 0) ∧ Below H w W ∧ H + 6 ≤ W.heap.size
/-- where a part is no arc -/
def ArcX (w : World) (H : Nat) (l : List UInt8) (c : Code) (_ : List (List UInt8)) (W : World) : Prop :=
  c = .ret ∧ arcsAll (splitO l) = none ∧ Boxed W H 22 (.slice none 0 0) ∧ Boxed W (H + 1) 24 (.int .i64 11) ∧ Below H w W ∧ H + 6 ≤ W.heap.size
theorem arcI_from (w : World) (H : Nat) : OwnFrom (H + 6) (ArcI w H) := by
  rintro s W W' row ⟨a, c, L, h1, h2, h3, h4, h5, h6, h7⟩ hg hr
  have hr' := fun r e => (hr r e).2
  exact ⟨a, c, L, h1, boxed_turn h2 hg hr', h3.turn hg hr', boxed_turn h4 hg hr', boxed_turn h5 hg hr', h6.grown hg (by omega) (fun q e => by have := (hr q e).1; omega), Nat.le_trans h7 hg.size⟩
theorem arcX_from (w : World) (H : Nat) (l : List UInt8) (c : Code) : OwnFrom (H + 6) (ArcX w H l c) := by
  rintro s W W' row ⟨h1, h2, h4, h5, h6, h7⟩ hg hr
  have hr' := fun r e => (hr r e).2
  exact ⟨h1, h2, boxed_turn h4 hg hr', boxed_turn h5 hg hr', h6.grown hg (by omega) (fun q e => by have := (hr q e).1; omega), Nat.le_trans h7 hg.size⟩
theorem arcI_write (w : World) (H : Nat) (s : List (List UInt8)) (A C : World) (h : BoxWrites (H + 3) A C) (hI : ArcI w H s A) : ArcI w H s C := by
  obtain ⟨v, rfl⟩ := h
  obtain ⟨a, c, L, h1, h2, h3, h4, h5, h6, h7⟩ := hI
  refine ⟨a, c, L, h1, boxed_store h2 (by omega), h3.keep (fun x hx => Below.heap_setCell _ _ _ _ (by have := (h3.base x hx).1; show x.block ≠ H + 3; omega)), boxed_store h4 (by omega), boxed_store h5 (by omega), h6.setCell (p := ⟨H + 3, 0, none⟩) (by show H ≤ H + 3; omega) _, ?_⟩
  have := (KeepsWalks.setCell A ⟨H + 3, 0, none⟩ v).size
  omega
theorem arcX_write (w : World) (H : Nat) (l : List UInt8) (c : Code) (s : List (List UInt8)) (A C : World) (h : BoxWrites (H + 3) A C) (hI : ArcX w H l c s A) : ArcX w H l c s C := by
  obtain ⟨v, rfl⟩ := h
  obtain ⟨h1, h2, h4, h5, h6, h7⟩ := hI
  refine ⟨h1, h2, boxed_store h4 (by omega), boxed_store h5 (by omega), h6.setCell (p := ⟨H + 3, 0, none⟩) (by show H ≤ H + 3; omega) _, ?_⟩
  have := (KeepsWalks.setCell A ⟨H + 3, 0, none⟩ v).size
  omega

set_option maxRecDepth 100000 in
set_option maxHeartbeats 4000000 in
theorem arcs_in (w : World) (hW : Wd w) (l : List UInt8) (hz : l.length ≤ 1000000) : CallsIn Fence.wide 6 Tryd.prog 9 #[.string ⟨l.toArray⟩] w fun e w' => ∃ a c, e = .returned (.tuple #[.slice a (arcL l).length c, .int .i64 (arcC l)]) ∧ OwnK .u32 w' w.heap.size 45 a (arcL l).length c (arcL l) ∧ Below w.heap.size w w' := by
  obtain ⟨i0, hi, hz0, hz1, hz2⟩ := info_parts info_u32
  have hro : Fence.wide.round = none := rfl
  obtain ⟨H, hH⟩ : ∃ H, w.heap.size = H := ⟨_, rfl⟩
  obtain ⟨w3, hw3⟩ : ∃ w3, ((w.alloc (.cells #[.slice none 0 0] 22)).alloc (.cells #[.int .i64 0] 24)).alloc (.cells #[.slice none 0 0] 22) = w3 := ⟨_, rfl⟩
  have b0 := Boxed.new w 22 (.slice none 0 0)
  have b1 := Boxed.new (w.alloc (.cells #[.slice none 0 0] 22)) 24 (.int .i64 0)
  have b2 := Boxed.new ((w.alloc (.cells #[.slice none 0 0] 22)).alloc (.cells #[.int .i64 0] 24)) 22 (.slice none 0 0)
  simp only [World.size_alloc, hH] at b0 b1 b2
  have B0 := (b0.alloc (.cells #[.int .i64 0] 24)).alloc (.cells #[.slice none 0 0] 22)
  have B1 := b1.alloc (.cells #[.slice none 0 0] 22)
  have hs3 : w3.heap.size = H + 3 := by rw [← hw3]; simp [hH]
  have hb3 : Below H w w3 := by rw [← hw3, ← hH]; exact bal (bal (bal (Below.refl _ w) _) _) _
  rw [hw3] at B0 B1 b2
  clear b0 b1
  obtain ⟨w6, hw6⟩ : ∃ w6, ((w3.alloc (.cells #[.string ⟨l.toArray⟩] 9)).alloc (.cells #[.string ⟨#[46]⟩] 9)).alloc (.cells #[.int .i64 0] 3) = w6 := ⟨_, rfl⟩
  have d0 := Boxed.new w3 9 (.string ⟨l.toArray⟩)
  have d1 := Boxed.new (w3.alloc (.cells #[.string ⟨l.toArray⟩] 9)) 9 (.string ⟨#[46]⟩)
  have d2 := Boxed.new ((w3.alloc (.cells #[.string ⟨l.toArray⟩] 9)).alloc (.cells #[.string ⟨#[46]⟩] 9)) 3 (.int .i64 0)
  simp only [World.size_alloc, hs3] at d0 d1 d2
  have D0 := (d0.alloc (.cells #[.string ⟨#[46]⟩] 9)).alloc (.cells #[.int .i64 0] 3)
  have D1 := d1.alloc (.cells #[.int .i64 0] 3)
  have hs6 : w6.heap.size = H + 6 := by rw [← hw6]; simp [hs3]
  have hb36 : Below w3.heap.size w3 w6 := by rw [← hw6]; exact bal (bal (bal (Below.refl _ w3) _) _) _
  rw [hs3] at hb36
  rw [hw6] at D0 D1 d2
  have A0 := boxed_below B0 hb36 (by omega)
  have A1 := boxed_below B1 hb36 (by omega)
  have A2 := boxed_below b2 hb36 (by omega)
  have hb6 : Below H w w6 := hb3.trans (hb36.mono (by omega))
  have HS := splitSeq_any 5 w3 l
  rw [hs3, hw6] at HS
  have HG := split_gives 5 (by omega) w6 (H + 3) l hz D0 D1 d2
  have hxl := split_len l
  clear d0 d1 B0 B1 b2 D0 D1 d2 hb36 hb3
  refine callsIn_of_wp_marks Tryd.func9 rfl trivial ?_ hro
  simp only [Tryd.ntmps9, List.size_toArray, List.length_cons, List.length_nil, Nat.reduceAdd, Nat.reduceSub, Array.replicate_succ, Array.replicate_zero, List.push_toArray, List.append_toArray, List.nil_append, List.cons_append]
  gi_wp2_with fail
  refine ⟨trivial, HS.mono ?_⟩
  rintro e w' ⟨rfl, rfl⟩
  gi_wp2_with fail
  refine wpIn_range_gives hro (by omega) (gf := 43) (lb := #[.pointer (some ⟨H + 3 + 1, 0, none⟩), .pointer (some ⟨H + 3, 0, none⟩), .pointer (some ⟨H + 3 + 2, 0, none⟩)]) rfl trivial (enters_of Tryd.func43 (by kernel_rfl) rfl) HG
    (fun h k => h.trans k) (fun W l o hl => BoxKept.putObj (S := H + 6) (by omega) W l o (by omega)) (fun h l hl => h.away (S := H + 6) (by omega) l (by omega)) (fun _ => rfl)
    (ArcI w H) (ArcX w H l) (by rw [hs6]; exact arcI_from w H) (fun c => by rw [hs6]; exact arcX_from w H l c) (arcI_write w H) (arcX_write w H l)
    ⟨none, 0, [], rfl, A2, OwnK.nil_ _ _ _ _, A0, A1, hb6, by omega⟩
    (fun x => { tmps := #[.string ⟨l.toArray⟩, undef, .pointer (some ⟨H, 0, none⟩), .pointer (some ⟨H + 1, 0, none⟩), .pointer (some ⟨H + 1 + 1, 0, none⟩), .string ⟨x.toArray⟩, undef, undef, .string ⟨l.toArray⟩, .func (.func 43) #[] #[.pointer (some ⟨H + 3 + 1, 0, none⟩), .pointer (some ⟨H + 3, 0, none⟩), .pointer (some ⟨H + 3 + 2, 0, none⟩)], .string ⟨x.toArray⟩, undef, undef, undef, undef, undef, undef, undef, undef, undef, undef, undef, undef, undef, undef, undef], defers := [] }) ?assign ?body ?done ?stop
  case assign =>
    intro lp x W K hK
    gi_wp2
    exact hK
  case body =>
    rw [hs6]
    rintro lp pre x post W hx ⟨a, c, L, h1, h2, h3, h4, h5, h6, h7⟩
    have hWW := hW.below (by rw [hH]; exact h6)
    have hxl2 := split_part l x (by rw [hx]; simp)
    have HP := Lib.hid (parseArc_any W hWW x (by omega))
    have hLp := arcsAll_len h1
    have hLb : L.length ≤ 1000001 := by have := congrArg List.length hx; simp at this; omega
    rcases hn : arcOf x with _ | v
    · have HX : Hid (arcsAll (splitO l) = none) := by rw [hx]; exact arcsAll_bad hn
      rw [hn] at HP
      clear hn h1 h3 hxl2 hLp hLb hxl hx hWW
      gi_wp2_with fail
      refine ⟨trivial, (CallsIn.inRound lp (callsIn_wide.2 HP.out)).mono ?_⟩
      rintro e W2 ⟨rfl, hb⟩
      have k4 := boxed_below h4 hb (by omega)
      have k5 := boxed_below h5 hb (by omega)
      have c4 := k4.cell
      have f4 := k4.frozen
      have c5 := k5.cell
      have f5 := k5.frozen
      gi_wp2
      have hsz := hb.size
      refine ⟨(((keepsOthers_of_below hb).trans (KeepsOthers.setCell _ _ _)).trans (KeepsOthers.setCell _ _ _)).from _, rfl, HX.out, boxed_store (k4.set _) (by omega), (boxed_store k5 (by omega)).set _, ((h6.trans (hb.mono (by omega))).setCell (p := ⟨H, 0, none⟩) (Nat.le_refl _) _).setCell (p := ⟨H + 1, 0, none⟩) (by show H ≤ H + 1; omega) _, ?_⟩
      have s1 := (KeepsWalks.setCell W2 ⟨H, 0, none⟩ (.slice none 0 0)).size
      have s2 := (KeepsWalks.setCell (W2.setCell ⟨H, 0, none⟩ (.slice none 0 0)) ⟨H + 1, 0, none⟩ (.int .i64 11)).size
      omega
    · have HX := Lib.hid (arcsAll_snoc h1 hn)
      rw [hn] at HP
      clear hn h1 hxl2 hLp hxl hx hWW
      gi_wp2_with fail
      refine ⟨trivial, (CallsIn.inRound lp (callsIn_wide.2 HP.out)).mono ?_⟩
      rintro e W2 ⟨rfl, hb⟩
      have hsz := hb.size
      have k2 := boxed_below h2 hb (by omega)
      have k4 := boxed_below h4 hb (by omega)
      have k5 := boxed_below h5 hb (by omega)
      have c2 := k2.cell
      have f2 := k2.frozen
      have O2 := Lib.hid (h3.below hb)
      gi_wp2_with (gi_at_builtin; refine wpListIn_append_own _ rfl _ _ 22 rfl (H + 6) 45 i0 (.int .u32 0) 1 4 Tryd.underlying22 hi hz0 hz1 hz2 rfl (by decide) _ L.length (cellsK .u32 L) rfl (O2.out.alloc _) ⟨W2.heap.size, 0, none⟩ 1 1 [.int .u32 (v : Int)] rfl rfl (cell_one_new _ _ _) (by simp [Value.oneCell']) (by unfold maxLen; omega) (by omega) (by simp; omega) ?_)
      intro v' w4 hown' hgrow _
      obtain ⟨a', c', rfl, ho⟩ := OwnK.append_form hown'
      have q := OwnK.app_below (O2.out.alloc (.cells #[.int .u32 (v : Int)] 45)) hgrow (Nat.le_refl _) (by simp; omega)
      have hb24 : Below (H + 6) W2 w4 := ((Below.refl (H + 6) W2).alloc (by omega) _).trans q
      have hbW : Below (H + 6) W w4 := (hb.mono (by omega)).trans hb24
      have hko : KeepsOthers W w4 := ((keepsOthers_of_below hb).trans (KeepsOthers.alloc _ _)).trans (KeepsOthers.of_grownBy hgrow fun j o ej hj => ownK_cells (O2.out.alloc _) ej hj)
      have m2 := boxed_below k2 hb24 (by omega)
      have m4 := boxed_below k4 hb24 (by omega)
      have m5 := boxed_below k5 hb24 (by omega)
      have c2' := m2.cell
      have f2' := m2.frozen
      have hsz4 := hb24.size
      clear hgrow hown' q c2 f2
      gi_wp2
      refine ⟨(hko.trans (KeepsOthers.setCell _ _ _)).from _, ?_, a', c', L ++ [v], HX.out, ?_, ?_, boxed_store m4 (by omega), boxed_store m5 (by omega), ?_, ?_⟩
      · intro k hk1 hk2
        exact (Below.heap_setCell _ _ _ k (by show k ≠ H + 2; omega)).trans (hbW.block k (by omega))
      · rw [List.length_append]
        exact m2.set _
      · rw [List.length_append]
        exact ho.keep fun x hx => Below.heap_setCell _ _ _ _ (by have := (ho.base x hx).1; show x.block ≠ H + 2; omega)
      · exact (h6.trans (hbW.mono (by omega))).setCell (p := ⟨H + 2, 0, none⟩) (by show H ≤ H + 2; omega) _
      · exact Nat.le_trans (by omega) (KeepsWalks.setCell _ _ _).size
  case done =>
    rw [hs6]
    rintro D W hD ⟨a, c, L, h1, h2, h3, h4, h5, h6, h7⟩ hK
    have c2 := h2.cell
    have HR := Lib.hid (validArcs_any h3.uk)
    have HO := Lib.hid h3
    have c4 := h4.cell
    have f4 := h4.frozen
    have c5 := h5.cell
    have f5 := h5.frozen
    rcases hr : rightO L with _ | _
    · have HA := Lib.hid (arc_wrong h1 hr)
      rw [hr] at HR
      gi_wp2_with fail
      refine ⟨trivial, (callsIn_wide.2 HR.out).mono ?_⟩
      rintro e W2 ⟨rfl, rfl⟩
      gi_wp2
      have k0 := boxed_store (h4.set (.slice none 0 0)) (show H ≠ H + 1 by omega) (u := .int .i64 11)
      have k1 := (boxed_store h5 (show H + 1 ≠ H by omega) (u := .slice none 0 0)).set (.int .i64 11)
      have hK2 := (Below.heap_setCell (W.setCell ⟨H, 0, none⟩ (.slice none 0 0)) ⟨H + 1, 0, none⟩ (.int .i64 11) D (by show D ≠ H + 1; omega)).trans ((Below.heap_setCell W ⟨H, 0, none⟩ (.slice none 0 0) D (by show D ≠ H; omega)).trans hK)
      obtain ⟨W4, hW4⟩ : ∃ W4, (W.setCell ⟨H, 0, none⟩ (.slice none 0 0)).setCell ⟨H + 1, 0, none⟩ (.int .i64 11) = W4 := ⟨_, rfl⟩
      have hB4 : Below H w W4 := by rw [← hW4]; exact (h6.setCell (p := ⟨H, 0, none⟩) (Nat.le_refl _) _).setCell (p := ⟨H + 1, 0, none⟩) (by show H ≤ H + 1; omega) _
      rw [hW4] at k0 k1 hK2 ⊢
      have hD4 := (Array.getElem?_eq_some_iff.1 hK2).1
      have k0' : Boxed (W4.putObj D (.deferred none)) H 22 (.slice none 0 0) := (World.putObj_heap_other (by omega)).trans k0
      have k1' : Boxed (W4.putObj D (.deferred none)) (H + 1) 24 (.int .i64 11) := (World.putObj_heap_other (by omega)).trans k1
      refine ⟨by simp, .inl ⟨_, _, rfl, run_takeDeferred hK2, ?_⟩⟩
      exact ⟨_, results_cells2 rfl _ _ _ (p := 2) (q := 3) rfl rfl (run_isAgg_plain Tryd.underlying22 rfl _) (run_isAgg_plain Tryd.underlying24 rfl _) k0'.cell k1'.cell, none, 0, by rw [HA.out.1, HA.out.2]; rfl, by rw [HA.out.2]; exact OwnK.nil_ _ _ _ _, by rw [hH]; exact hB4.grown (grownBy_putObj' W4 D _) (by omega) (fun k e => by cases e; omega)⟩
    · have HA := Lib.hid (arc_good h1 hr)
      rw [hr] at HR
      gi_wp2_with fail
      refine ⟨trivial, (callsIn_wide.2 HR.out).mono ?_⟩
      rintro e W2 ⟨rfl, rfl⟩
      gi_wp2
      have k0 := boxed_store (h4.set (.slice a L.length c)) (show H ≠ H + 1 by omega) (u := .int .i64 0)
      have k1 := (boxed_store h5 (show H + 1 ≠ H by omega) (u := .slice a L.length c)).set (.int .i64 0)
      have hK2 := (Below.heap_setCell (W.setCell ⟨H, 0, none⟩ (.slice a L.length c)) ⟨H + 1, 0, none⟩ (.int .i64 0) D (by show D ≠ H + 1; omega)).trans ((Below.heap_setCell W ⟨H, 0, none⟩ (.slice a L.length c) D (by show D ≠ H; omega)).trans hK)
      have hOO : OwnK .u32 ((W.setCell ⟨H, 0, none⟩ (.slice a L.length c)).setCell ⟨H + 1, 0, none⟩ (.int .i64 0)) (H + 6) 45 a L.length c L := HO.out.keep fun x hx => by
        have hx2 := (HO.out.base x hx).1
        exact (Below.heap_setCell (W.setCell ⟨H, 0, none⟩ (.slice a L.length c)) ⟨H + 1, 0, none⟩ (.int .i64 0) x.block (by show x.block ≠ H + 1; omega)).trans (Below.heap_setCell W ⟨H, 0, none⟩ (.slice a L.length c) x.block (by show x.block ≠ H; omega))
      obtain ⟨W4, hW4⟩ : ∃ W4, (W.setCell ⟨H, 0, none⟩ (.slice a L.length c)).setCell ⟨H + 1, 0, none⟩ (.int .i64 0) = W4 := ⟨_, rfl⟩
      have hB4 : Below H w W4 := by rw [← hW4]; exact (h6.setCell (p := ⟨H, 0, none⟩) (Nat.le_refl _) _).setCell (p := ⟨H + 1, 0, none⟩) (by show H ≤ H + 1; omega) _
      rw [hW4] at k0 k1 hK2 hOO ⊢
      have hD4 := (Array.getElem?_eq_some_iff.1 hK2).1
      have k0' : Boxed (W4.putObj D (.deferred none)) H 22 (.slice a L.length c) := (World.putObj_heap_other (by omega)).trans k0
      have k1' : Boxed (W4.putObj D (.deferred none)) (H + 1) 24 (.int .i64 0) := (World.putObj_heap_other (by omega)).trans k1
      have hO5 := hOO.turn (grownBy_putObj' W4 D (.deferred none)) (fun r e => by cases e; exact ⟨_, hK2, rfl⟩)
      refine ⟨by simp, .inl ⟨_, _, rfl, run_takeDeferred hK2, ?_⟩⟩
      exact ⟨_, results_cells2 rfl _ _ _ (p := 2) (q := 3) rfl rfl (run_isAgg_plain Tryd.underlying22 rfl _) (run_isAgg_plain Tryd.underlying24 rfl _) k0'.cell k1'.cell, a, c, by rw [HA.out.1, HA.out.2], by rw [HA.out.2]; exact hO5.more (by omega), by rw [hH]; exact hB4.grown (grownBy_putObj' W4 D _) (by omega) (fun k e => by cases e; omega)⟩
  case stop =>
    rw [hs6]
    rintro D c pre W hD _ ⟨rfl, hA, h4, h5, h6, h7⟩ hK
    have HA := arc_fail hA
    have hD4 := (Array.getElem?_eq_some_iff.1 hK).1
    gi_wp2
    have k0' : Boxed (W.putObj D (.deferred none)) H 22 (.slice none 0 0) := (World.putObj_heap_other (by omega)).trans h4
    have k1' : Boxed (W.putObj D (.deferred none)) (H + 1) 24 (.int .i64 11) := (World.putObj_heap_other (by omega)).trans h5
    refine ⟨by simp, .inl ⟨_, _, rfl, run_takeDeferred hK, ?_⟩⟩
    exact ⟨_, results_cells2 rfl _ _ _ (p := 2) (q := 3) rfl rfl (run_isAgg_plain Tryd.underlying22 rfl _) (run_isAgg_plain Tryd.underlying24 rfl _) k0'.cell k1'.cell, none, 0, by rw [HA.1, HA.2]; rfl, by rw [HA.2]; exact OwnK.nil_ _ _ _ _, by rw [hH]; exact h6.grown (grownBy_putObj' W D _) (by omega) (fun k e => by cases e; omega)⟩
theorem arcs_any (w : World) (hW : Wd w) (l : List UInt8) (hz : l.length ≤ 1000000) : Calls Tryd.prog 9 #[.string ⟨l.toArray⟩] w fun e w' => ∃ a c, e = .returned (.tuple #[.slice a (arcL l).length c, .int .i64 (arcC l)]) ∧ OwnK .u32 w' w.heap.size 45 a (arcL l).length c (arcL l) ∧ Below w.heap.size w w' :=
  callsIn_wide.1 (arcs_in w hW l hz)
end Go.Proofs.YtepicefbpadbhaaDoor
