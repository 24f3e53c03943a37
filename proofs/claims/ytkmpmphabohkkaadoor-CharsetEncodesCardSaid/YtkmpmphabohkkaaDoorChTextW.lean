/-
  Contract of the program's text at a width of one, two or four octets: a range over the pieces, written into a builder.
-/
import Derived.Test.YtkmpmphabohkkaaDoorChChunk
import Derived.Test.YtkmpmphabohkkaaDoorSlices
import Derived.Maps.AppendAt
import Derived.Shelf.RegionOpenV
import Derived.Shelf.Strings.BuilderK
namespace Go.Proofs.YtkmpmphabohkkaaDoor
open Go.RowKit Go.Shelf
attribute [local go_sem] Oper.semAt_some

theorem kept_blk {B b : Nat} {W W' : World} (hk : KeptU B W W') {t : TypeId} {cs : Array Value} (h : Blk W b t cs) (hb : b ≠ B) (ht : t ≠ 5) : Blk W' b t cs :=
  hk b _ h (fun e => hb (by injection e)) (fun c fz e => by injection e with _ e2; exact ht e2)
theorem keepsFrom_kept {B S : Nat} {W W' : World} (hk : KeptU B W W') (hs : W.heap.size ≤ W'.heap.size) {t : TypeId} {cs : Array Value} (hB : Blk W B t cs) : KeepsFrom S W W' :=
  ⟨hs, fun k o _ ho hc => hk k o ho (fun e => by
    injection e with e
    subst e
    unfold Blk at hB
    rw [hB] at ho
    injection ho with ho
    subst ho
    cases hc) (fun c fz e => by subst e; cases hc)⟩
theorem boxed_below {W W' : World} {n B : Nat} {t : TypeId} {v : Value} (h : Boxed W B t v) (hb : Below n W W') (hB : B < n) : Boxed W' B t v := (hb.block B hB).trans h
theorem boxed_store {W : World} {B C : Nat} {t : TypeId} {v u : Value} (h : Boxed W B t v) (hne : B ≠ C) : Boxed (W.setCell ⟨C, 0, none⟩ u) B t v := (Below.heap_setCell _ _ _ B (by show B ≠ C; omega)).trans h
theorem own_turn {W W' : World} {row : Option Nat} {n : Nat} {e : TypeId} {a : Option Addr} {m c : Nat} {l : List UInt8} (h : Own W n e a m c l) (hg : W.grownBy W' row) (hr : ∀ r, row = some r → ∃ o : Obj, W.heap[r]? = some o ∧ o.isCells = false) : Own W' n e a m c l := by
  refine ⟨h.1, h.2.imp id ?_⟩
  rintro ⟨g, cap, cur, h1, h2, h3, h4⟩
  refine ⟨g, cap, cur, h1, h2, (hg.block g (Array.getElem?_eq_some_iff.1 h3).1 (fun e => ?_)).trans h3, h4⟩
  obtain ⟨o, ho, hc⟩ := hr g e.symm
  rw [h3] at ho
  injection ho with ho
  subst ho
  cases hc
theorem blk_turn {W W' : World} {row : Option Nat} {B : Nat} {t : TypeId} {cs : Array Value} (h : Blk W B t cs) (hg : W.grownBy W' row) (hr : ∀ r, row = some r → ∃ o : Obj, W.heap[r]? = some o ∧ o.isCells = false) : Blk W' B t cs :=
  (hg.block B h.lt (fun e => by
    obtain ⟨o, ho, hc⟩ := hr B e.symm
    unfold Blk at h
    rw [h] at ho
    injection ho with ho
    subst ho
    cases hc)).trans h
theorem bld_turn {W W' : World} {row : Option Nat} {n B : Nat} {l : List UInt8} (h : Bld W n B l) (hg : W.grownBy W' row) (hr : ∀ r, row = some r → ∃ o : Obj, W.heap[r]? = some o ∧ o.isCells = false) : Bld W' n B l := by
  rcases h with ⟨h1, a, c, h2, h3⟩ | ⟨h1, a, c, h2, h3⟩
  · exact .inl ⟨h1, a, c, blk_turn h2 hg hr, own_turn h3 hg hr⟩
  · exact .inr ⟨h1, a, c, blk_turn h2 hg hr, own_turn h3 hg hr⟩
theorem bld_drew {W : World} {n B : Nat} {l : List UInt8} (h : Bld W n B l) : Bld W.drew n B l := h
theorem bld_blk {W : World} {n B : Nat} {l : List UInt8} (h : Bld W n B l) : ∃ cs, Blk W B 63 cs := by
  rcases h with ⟨h1, a, c, h2, h3⟩ | ⟨h1, a, c, h2, h3⟩ <;> exact ⟨_, h2⟩
theorem bld_belowB {W W' : World} {n B m : Nat} {l : List UInt8} (h : Bld W n B l) (hb : Below m W W') (hm : m = W.heap.size) : Bld W' n B l := by
  subst hm
  rcases h with ⟨h1, a, c, h2, h3⟩ | ⟨h1, a, c, h2, h3⟩
  · exact .inl ⟨h1, a, c, h2.below hb h2.lt, h3.below hb⟩
  · exact .inr ⟨h1, a, c, h2.below hb h2.lt, h3.below hb⟩
theorem piece {w : World} {g off n c : Nat} {l : List UInt8} (h : Bs w (some ⟨g, off, none⟩) n c l) {i m : Nat} (hi : i + m ≤ n) (hm : 0 < m) : Bs w (some ⟨g, off + i, none⟩) m m ((l.drop i).take m) := by
  have h1 := bs_mid h hi hm
  have h2 := h.2.2.1
  have h3 := h.2.1
  exact ⟨h1.1, Nat.le_refl _, by omega, h1.2.2.2⟩

theorem encU_le4 : ∀ L : List Nat, (encU L).length ≤ 4 * L.length
  | [] => Nat.le_refl _
  | x :: L => by
    have h1 := encU_le4 L
    have h2 := u8O_le x
    rw [encU_cons, List.length_append, List.length_cons]
    omega
theorem keptBox2 {B H : Nat} {W W' : World} (hk : KeptU B W W') {t u : TypeId} {x y : Value} (h1 : Boxed W H t x) (h2 : Boxed W (H + 1) u y) (hB : B < H) (ht : t ≠ 5) (hu : u ≠ 5) : BoxKept2 H W W' := by
  intro k hk1 hk2
  rcases (by omega : k = H ∨ k = H + 1) with rfl | rfl
  · exact (kept_blk hk h1 (by omega) ht).trans (show W.heap[k]? = _ from h1).symm
  · exact (kept_blk hk h2 (by omega) hu).trans (show W.heap[H + 1]? = _ from h2).symm
theorem bstr_any {w : World} {n B : Nat} {l : List UInt8} (h : Bld w n B l) (hn : n ≤ w.heap.size) :
    Calls Tryd.prog 39 #[.pointer (some ⟨B, 0, none⟩)] w fun e w' => e = .returned (.string ⟨l.toArray⟩) ∧ Below n w w' ∧ KeptU B w w' :=
  Calls.mono (Any.Builder_String_any_k Tryd.lays169 Tryd.Builder_Extra_169 n B l w (Lib.IsBuilderF.of h.is) hn) (by rintro e w' ⟨rfl, _, h2, h3⟩; exact ⟨rfl, h2, h3⟩)
theorem keepsOthers_of_below {W W' : World} (h : Below W.heap.size W W') : KeepsOthers W W' :=
  ⟨h.size, fun k _ hk _ => (h.block k (Array.getElem?_eq_some_iff.1 hk).1).trans hk⟩
theorem results_cells2 {fn : Func} {p q : Tmp} {t u : TypeId} (h : fn.results = #[.cell p t, .cell q u]) (tmps : Array Value) (P : Program) (w : World) {A B : Addr} {x y : Value}
    (hp : tmps[p]? = some (.pointer (some A))) (hq : tmps[q]? = some (.pointer (some B))) (ha : (isAgg t).run P w = .ok false w) (hb : (isAgg u).run P w = .ok false w) (hx : w.cell? A = some x) (hy : w.cell? B = some y) :
    (results fn tmps).run P w = .ok (.tuple #[x, y]) w := by
  simp only [results, h]
  simp [Sem.run_bind, Result.andThen, hp, hq, asAddr, loadVar, ha, hb, hx, hy]
/-- between two rounds -/
def TxI (k : Int) (l : List UInt8) (Wd : Nat) (F V : Value) (w : World) (H : Nat) (pre : List Nat) (W : World) : Prop :=
  (pre.map (nb l Wd)).all (okI k) = true ∧ Bld W H (H + 3) (encU (pre.map (nb l Wd))) ∧ Blk W H 47 #[F, .int .i64 Wd] ∧ Boxed W (H + 1) 9 (.string ⟨#[]⟩) ∧ Boxed W (H + 2) 4 (.bool false) ∧ Boxed W (H + 4) 25 V ∧ Boxed W (H + 4 + 1) 3 (.int .i64 Wd) ∧ Below H w W ∧ H + 6 ≤ W.heap.size
/-- where a piece is no character of the kind -/
def TxX (k : Int) (l : List UInt8) (w : World) (H : Nat) (c : Code) (_ : List Nat) (W : World) : Prop :=
  c = .ret ∧ decT k l = none ∧ Boxed W (H + 1) 9 (.string ⟨#[]⟩) ∧ Boxed W (H + 2) 4 (.bool false) ∧ Below H w W ∧ H + 6 ≤ W.heap.size
theorem txI_from (k : Int) (l : List UInt8) (Wd : Nat) (F V : Value) (w : World) (H : Nat) : OwnFrom (H + 6) (TxI k l Wd F V w H) := by
  rintro s W W' row ⟨h1, h2, h3, h4, h5, g1, g2, h6, h7⟩ hg hr
  have hr' := fun r e => (hr r e).2
  exact ⟨h1, bld_turn h2 hg hr', blk_turn h3 hg hr', blk_turn h4 hg hr', blk_turn h5 hg hr', blk_turn g1 hg hr', blk_turn g2 hg hr', h6.grown hg (by omega) (fun q e => by have := (hr q e).1; omega), Nat.le_trans h7 hg.size⟩
theorem txX_from (k : Int) (l : List UInt8) (w : World) (H : Nat) (c : Code) : OwnFrom (H + 6) (TxX k l w H c) := by
  rintro s W W' row ⟨h1, h2, h4, h5, h6, h7⟩ hg hr
  have hr' := fun r e => (hr r e).2
  exact ⟨h1, h2, blk_turn h4 hg hr', blk_turn h5 hg hr', h6.grown hg (by omega) (fun q e => by have := (hr q e).1; omega), Nat.le_trans h7 hg.size⟩

set_option maxRecDepth 100000 in
set_option maxHeartbeats 1000000 in
theorem text_in (k : Int) (Wd : Nat) (hWd : Wd = 1 ∨ Wd = 2 ∨ Wd = 4) (hk : widK k = Wd) {w : World} {a : Option Addr} {n c : Nat} {l : List UInt8} (h : Bs w a n c l) (hz : n ≤ 5000) (m : Nat) (hm : n = m * Wd) :
    CallsIn Fence.wide 8 Tryd.prog 35 #[.agg #[fnK k, .int .i64 Wd], .slice a n c] w fun e w' => e = .returned (.tuple #[.string ⟨(tdS k l).toArray⟩, .bool (decT k l).isSome]) ∧ Below w.heap.size w w' := by
  have hk0 : 0 ≤ widK k := by omega
  obtain ⟨f, hf, hen, HF⟩ := fn_any k hk0
  rw [hf]
  have hro : Fence.wide.round = none := rfl
  obtain ⟨H, hH⟩ : ∃ H, w.heap.size = H := ⟨_, rfl⟩
  obtain ⟨F, hF⟩ : ∃ F, Value.func (.func f) #[] #[] = F := ⟨_, rfl⟩
  obtain ⟨w4, hw4⟩ : ∃ w4, (((w.alloc (.cells #[F, .int .i64 Wd] 47)).alloc (.cells #[.string ⟨#[]⟩] 9)).alloc (.cells #[.bool false] 4)).alloc (.cells #[.pointer none, .slice none 0 0] 63) = w4 := ⟨_, rfl⟩
  have b0 := Blk.new w 47 #[F, .int .i64 Wd]
  have b1 := Boxed.new (w.alloc (.cells #[F, .int .i64 Wd] 47)) 9 (.string ⟨#[]⟩)
  have b2 := Boxed.new ((w.alloc (.cells #[F, .int .i64 Wd] 47)).alloc (.cells #[.string ⟨#[]⟩] 9)) 4 (.bool false)
  have b3 := bld_new (((w.alloc (.cells #[F, .int .i64 Wd] 47)).alloc (.cells #[.string ⟨#[]⟩] 9)).alloc (.cells #[.bool false] 4)) H (by simp [hH]; omega)
  simp only [World.size_alloc, hH] at b0 b1 b2 b3
  have B0 := ((b0.alloc (.cells #[.string ⟨#[]⟩] 9)).alloc (.cells #[.bool false] 4)).alloc (.cells #[.pointer none, .slice none 0 0] 63)
  have B1 := (b1.alloc (.cells #[.bool false] 4)).alloc (.cells #[.pointer none, .slice none 0 0] 63)
  have B2 := b2.alloc (.cells #[.pointer none, .slice none 0 0] 63)
  have hs4 : w4.heap.size = H + 4 := by rw [← hw4]; simp [hH]
  have hb4 : Below H w w4 := by rw [← hw4, ← hH]; exact bal (bal (bal (bal (Below.refl _ w) _) _) _) _
  rw [hw4] at B0 B1 B2 b3
  clear b0 b1 b2
  obtain ⟨w6, hw6⟩ : ∃ w6, (w4.alloc (.cells #[.slice a n c] 25)).alloc (.cells #[.int .i64 Wd] 3) = w6 := ⟨_, rfl⟩
  have d0 := Boxed.new w4 25 (.slice a n c)
  have d1 := Boxed.new (w4.alloc (.cells #[.slice a n c] 25)) 3 (.int .i64 Wd)
  simp only [World.size_alloc, hs4] at d0 d1
  have D0 := d0.alloc (.cells #[.int .i64 Wd] 3)
  have hs6 : w6.heap.size = H + 6 := by rw [← hw6]; simp [hs4]
  have hb46 : Below w4.heap.size w4 w6 := by rw [← hw6]; exact bal (bal (Below.refl _ w4) _) _
  rw [hw6] at D0 d1
  have b36 := bld_belowB b3 hb46 rfl
  rw [hs4] at hb46
  have A0 := B0.below hb46 (by omega)
  have A1 := boxed_below B1 hb46 (by omega)
  have A2 := boxed_below B2 hb46 (by omega)
  have hb6 : Below H w w6 := hb4.trans (hb46.mono (by omega))
  have HS := chunk_any 7 w4 a n c Wd (by omega)
  rw [hs4, hw6] at HS
  obtain ⟨g, off, hga⟩ : ∃ g off, 0 < m → a = some ⟨g, off, none⟩ := by
    rcases Nat.eq_zero_or_pos m with h0 | h0
    · exact ⟨0, 0, fun h => absurd h (by omega)⟩
    · have hn0 : 0 < n := by rw [hm]; exact Nat.mul_pos h0 (by omega)
      obtain ⟨g, off, e, _⟩ := h.2.2.2 hn0
      exact ⟨g, off, fun _ => e⟩
  have hcap := h.2.1
  have HG := chunk_gives 7 (by omega) w6 (H + 4) g off c Wd m a hga (by omega) (by omega) (by rw [← hm]; omega) (by rw [← hm]; exact hcap) (by rw [← hm]; exact D0) d1
  have hWn : (Wd : Int) ≠ 0 := by omega
  have hWb : ((Wd : Int) == 0) = false := by simp; omega
  have hrem2 : (n : Int) % Wd = 0 := by rw [hm, Int.natCast_mul]; exact Int.mul_emod_left _ _
  have hrem : (n : Int).tmod Wd = 0 := by rw [Int.tmod_eq_emod_of_nonneg (by omega)]; exact hrem2
  obtain ⟨e0, e1, _, _⟩ := B0.cells2
  have HM := Lib.hid hm
  rw [hF]
  clear d0 B0 B1 B2 hb46 hb4 hm
  refine callsIn_of_wp_marks Tryd.func35 rfl trivial ?_ hro
  simp only [Tryd.ntmps35, List.size_toArray, List.length_cons, List.length_nil, Nat.reduceAdd, Nat.reduceSub, Array.replicate_succ, Array.replicate_zero, List.push_toArray, List.append_toArray, List.nil_append, List.cons_append]
  gi_wp2_with fail
  refine ⟨trivial, HS.mono ?_⟩
  rintro e w' ⟨rfl, rfl⟩
  gi_wp2_with fail
  refine wpIn_range_gives hro (by omega) (gf := 63) (lb := #[.pointer (some ⟨H + 4, 0, none⟩), .pointer (some ⟨H + 4 + 1, 0, none⟩)]) rfl trivial (enters_of Tryd.func63 (by kernel_rfl) rfl) HG
    (fun h k => h.trans k) (fun W l o hl => BoxKept2.putObj (S := H + 6) (by omega) W l o (by omega)) (fun h l hl => by subst h; rfl) (fun _ => rfl)
    (TxI k l Wd F (.slice a n c) w H) (TxX k l w H) (by rw [hs6]; exact txI_from k l Wd F _ w H) (fun c => by rw [hs6]; exact txX_from k l w H c) (fun s A B hw hs => by subst hw; obtain ⟨h1, h2, h3, h4, h5, g1, g2, h6, h7⟩ := hs; exact ⟨h1, bld_drew h2, h3, h4, h5, g1, g2, h6.drew, h7⟩) (fun c s A B hw hs => by subst hw; obtain ⟨h1, h2, h4, h5, h6, h7⟩ := hs; exact ⟨h1, h2, h4, h5, h6.drew, h7⟩)
    ⟨rfl, b36, A0, A1, A2, D0, d1, hb6, by omega⟩
    (fun x => { tmps := #[.agg #[F, .int .i64 Wd], .slice a n c, .pointer (some ⟨H, 0, none⟩), undef, .pointer (some ⟨H + 1, 0, none⟩), .pointer (some ⟨H + 1 + 1, 0, none⟩), undef, .pointer (some ⟨H + 1 + 1 + 1, 0, none⟩), .slice (some ⟨g, off + x * Wd, none⟩) Wd Wd, undef, .pointer (some ⟨H, 1, none⟩), .int .i64 Wd, .bool false, undef, undef, undef, undef, undef, undef, .slice a n c, .int .i64 n, .pointer (some ⟨H, 1, none⟩), .int .i64 Wd, .int .i64 0, .bool false, .slice a n c, .pointer (some ⟨H, 1, none⟩), .int .i64 Wd, .func (.func 63) #[] #[.pointer (some ⟨H + 4, 0, none⟩), .pointer (some ⟨H + 4 + 1, 0, none⟩)], .slice (some ⟨g, off + x * Wd, none⟩) Wd Wd, undef, undef, undef, undef, undef, undef, undef, undef, undef, undef], defers := [] }) ?assign ?body ?done ?stop
  case assign =>
    intro lp x W K hK
    gi_wp2
    exact hK
  case body =>
    rw [hs6]
    subst hF
    rintro lp pre x post W hx ⟨h1, h2, h3, h4, h5, g1, g2, h6, h7⟩
    obtain ⟨hxj, hxm⟩ := range_split hx
    have HXJ := Lib.hid hxj
    clear hxj
    clear hx
    obtain rfl := hga (by omega)
    have hbs : Bs W (some ⟨g, off, none⟩) n c l := h.below (by rw [hH]; exact h6)
    have hPj : x * Wd + Wd ≤ n := by rw [HM.out, ← Nat.succ_mul]; exact Nat.mul_le_mul_right Wd hxm
    have hln := h.len
    have HC := Lib.hid (char_any (piece hbs hPj (by omega)) (by omega))
    have hpl : (encU (pre.map (nb l Wd))).length ≤ 1000000 := by
      have e1 := encU_le4 (pre.map (nb l Wd))
      rw [List.length_map] at e1
      have e2 : m * 1 ≤ m * Wd := Nat.mul_le_mul_left m (by omega)
      have e3 := HM.out
      have e4 := HXJ.out
      omega
    have hfn : Fence.wide.fn f := trivial
    have HF2 := Lib.hid (HF (chS ((l.drop (x * Wd)).take Wd)))
    have hokE : hasI k (chS ((l.drop (x * Wd)).take Wd)) = okI k (nb l Wd x) := rfl
    rw [Hid, hokE] at HF2
    have HF3 := Lib.hid HF2
    clear HF2
    have hlm : l.length = m * Wd := by rw [hln]; exact HM.out
    obtain ⟨z0, z1, zl, zf⟩ := h3.cells2
    rcases hok : okI k (nb l Wd x) with _ | _
    · have HX := Lib.hid (dec_none hWd hk hlm hxm hok)
      rw [hok] at HF3
      generalize chS ((l.drop (x * Wd)).take Wd) = r at *
      clear hok hokE hlm hpl hbs hln
      gi_wp2_with fail
      refine ⟨trivial, (CallsIn.inRound lp (callsIn_wide.2 HC.out)).mono ?_⟩
      rintro e W2 ⟨rfl, rfl⟩
      gi_wp2_with fail
      refine (CallsIn.inRound lp (callsIn_wide.2 (HF3.out _))).mono ?_
      rintro e W3 ⟨rfl, hb⟩
      have k4 := boxed_below h4 hb (by omega)
      have k5 := boxed_below h5 hb (by omega)
      have c4 := k4.cell
      have f4 := k4.frozen
      have c5 := k5.cell
      have f5 := k5.frozen
      gi_wp2
      have hsz := hb.size
      refine ⟨(((keepsOthers_of_below hb).trans (KeepsOthers.setCell _ _ _)).trans (KeepsOthers.setCell _ _ _)).from _, rfl, HX.out, boxed_store (k4.set _) (by omega), (boxed_store k5 (by omega)).set _, ((h6.trans (hb.mono (by omega))).setCell (p := ⟨H + 1, 0, none⟩) (by show H ≤ H + 1; omega) _).setCell (p := ⟨H + 1 + 1, 0, none⟩) (by show H ≤ H + 1 + 1; omega) _, ?_⟩
      have s1 := (KeepsWalks.setCell W3 ⟨H + 1, 0, none⟩ (.string ⟨#[]⟩)).size
      have s2 := (KeepsWalks.setCell (W3.setCell ⟨H + 1, 0, none⟩ (.string ⟨#[]⟩)) ⟨H + 1 + 1, 0, none⟩ (.bool false)).size
      omega
    · obtain ⟨hhas, hwr⟩ := ok_has hok (nb_lt hWd)
      have hsc := has_scal hhas
      have hch : chS ((l.drop (x * Wd)).take Wd) = (nb l Wd x : Int) := hwr
      have HALL : Hid (((pre ++ [x]).map (nb l Wd)).all (okI k) = true) := by
        rw [Hid, List.map_append, List.all_append, h1]
        show (true && (okI k (nb l Wd x) && true)) = true
        rw [hok]
        rfl
      have HEN : Hid (encU ((pre ++ [x]).map (nb l Wd)) = encU (pre.map (nb l Wd)) ++ u8O (nb l Wd x)) := by rw [Hid, List.map_append, List.map_cons, List.map_nil, encU_snoc]
      rw [hok] at HF3
      rw [hch] at HC HF3
      clear hok hokE hlm hbs hln hwr hhas hch
      generalize nb l Wd x = y at *
      generalize encU (pre.map (nb l Wd)) = E at *
      gi_wp2_with fail
      refine ⟨trivial, (CallsIn.inRound lp (callsIn_wide.2 HC.out)).mono ?_⟩
      rintro e W2 ⟨rfl, rfl⟩
      gi_wp2_with fail
      refine (CallsIn.inRound lp (callsIn_wide.2 (HF3.out _))).mono ?_
      rintro e W3 ⟨rfl, hb⟩
      have m2 := bld_belowB h2 hb rfl
      have m3 := h3.below hb h3.lt
      have k4 := boxed_below h4 hb (by omega)
      have k5 := boxed_below h5 hb (by omega)
      have j1 := boxed_below g1 hb (by omega)
      have j2 := boxed_below g2 hb (by omega)
      have hsz := hb.size
      have HWR := Lib.hid (wrune_any m2 y hsc hpl (by omega))
      have HK0 := Lib.hid (keepsOthers_of_below hb)
      have HB0 : Hid (BoxKept2 (H + 4) W2 W3) := fun q hq1 hq2 => hb.block q (by omega)
      gi_wp2_with fail
      refine ⟨trivial, (CallsIn.inRound lp (callsIn_wide.2 HWR.out)).mono ?_⟩
      rintro e W4 ⟨⟨v, rfl⟩, n2, hq4, hk4⟩
      obtain ⟨cs, hcs⟩ := bld_blk m2
      have hs4 := hq4.size
      gi_wp2
      exact ⟨(HK0.out.from _).trans (keepsFrom_kept hk4 hs4 hcs), HB0.out.trans (keptBox2 hk4 j1 j2 (by omega) (by decide) (by decide)), HALL.out, by rw [HEN.out]; exact n2, kept_blk hk4 m3 (by omega) (by decide), kept_blk hk4 k4 (by omega) (by decide), kept_blk hk4 k5 (by omega) (by decide), kept_blk hk4 j1 (by omega) (by decide), kept_blk hk4 j2 (by omega) (by decide), (h6.trans (hb.mono (by omega))).trans hq4, by omega⟩
  case done =>
    rw [hs6]
    rintro D W hD ⟨h1, h2, h3, h4, h5, g1, g2, h6, h7⟩ hK
    have hln := h.len
    have HDY := Lib.hid (dec_yes hWd hk (show l.length = m * Wd by rw [hln]; exact HM.out) h1)
    have HST := Lib.hid (bstr_any h2 (by omega))
    generalize encU ((List.range m).map (nb l Wd)) = E at *
    have c4 := h4.cell
    have f4 := h4.frozen
    have c5 := h5.cell
    have f5 := h5.frozen
    gi_wp2_with fail
    refine ⟨trivial, (callsIn_wide.2 HST.out).mono ?_⟩
    rintro e W2 ⟨rfl, hb, hkk⟩
    have hsz := hb.size
    have m4 : Boxed W2 (H + 1) 9 (.string ⟨#[]⟩) := kept_blk hkk h4 (by omega) (by decide)
    have m5 : Boxed W2 (H + 2) 4 (.bool false) := kept_blk hkk h5 (by omega) (by decide)
    have hKK := hkk D _ hK (fun e => by injection e with e; omega) (fun _ _ e => by cases e)
    have d4 := m4.cell
    have e4 := m4.frozen
    have d5 := m5.cell
    have e5 := m5.frozen
    gi_wp2
    have k0 := boxed_store (m4.set (.string ⟨E.toArray⟩)) (show H + 1 ≠ H + 1 + 1 by omega) (u := .bool true)
    have k1 := (boxed_store m5 (show H + 2 ≠ H + 1 by omega) (u := .string ⟨E.toArray⟩)).set (.bool true)
    have hK2 := (Below.heap_setCell (W2.setCell ⟨H + 1, 0, none⟩ (.string ⟨E.toArray⟩)) ⟨H + 1 + 1, 0, none⟩ (.bool true) D (by show D ≠ H + 1 + 1; omega)).trans ((Below.heap_setCell W2 ⟨H + 1, 0, none⟩ (.string ⟨E.toArray⟩) D (by show D ≠ H + 1; omega)).trans hKK)
    obtain ⟨W4, hW4⟩ : ∃ W4, (W2.setCell ⟨H + 1, 0, none⟩ (.string ⟨E.toArray⟩)).setCell ⟨H + 1 + 1, 0, none⟩ (.bool true) = W4 := ⟨_, rfl⟩
    have hB4 : Below H w W4 := by rw [← hW4]; exact ((h6.trans hb).setCell (p := ⟨H + 1, 0, none⟩) (by show H ≤ H + 1; omega) _).setCell (p := ⟨H + 1 + 1, 0, none⟩) (by show H ≤ H + 1 + 1; omega) _
    have k1e : Boxed ((W2.setCell ⟨H + 1, 0, none⟩ (.string ⟨E.toArray⟩)).setCell ⟨H + 1 + 1, 0, none⟩ (.bool true)) (H + 1 + 1) 4 (.bool true) := k1
    rw [hW4] at k0 k1e hK2 ⊢
    have hD4 := (Array.getElem?_eq_some_iff.1 hK2).1
    have k0' : Boxed (W4.putObj D (.deferred none)) (H + 1) 9 (.string ⟨E.toArray⟩) := (World.putObj_heap_other (by omega)).trans k0
    have k1' : Boxed (W4.putObj D (.deferred none)) (H + 1 + 1) 4 (.bool true) := (World.putObj_heap_other (by omega)).trans k1e
    refine ⟨by simp, .inl ⟨_, _, rfl, run_takeDeferred hK2, ?_⟩⟩
    exact ⟨_, results_cells2 rfl _ _ _ (p := 4) (q := 5) rfl rfl (run_isAgg_plain Tryd.underlying9 rfl _) (run_isAgg_plain Tryd.underlying4 rfl _) k0'.cell k1'.cell, by unfold tdS; rw [HDY.out]; rfl, by rw [hH]; exact hB4.grown (grownBy_putObj' W4 D _) (by omega) (fun k e => by cases e; omega)⟩
  case stop =>
    rw [hs6]
    rintro D c pre W hD _ ⟨rfl, hA, h4, h5, h6, h7⟩ hK
    have hD4 := (Array.getElem?_eq_some_iff.1 hK).1
    gi_wp2
    have k0' : Boxed (W.putObj D (.deferred none)) (H + 1) 9 (.string ⟨#[]⟩) := (World.putObj_heap_other (by omega)).trans h4
    have k1' : Boxed (W.putObj D (.deferred none)) (H + 2) 4 (.bool false) := (World.putObj_heap_other (by omega)).trans h5
    refine ⟨by simp, .inl ⟨_, _, rfl, run_takeDeferred hK, ?_⟩⟩
    exact ⟨_, results_cells2 rfl _ _ _ (p := 4) (q := 5) rfl rfl (run_isAgg_plain Tryd.underlying9 rfl _) (run_isAgg_plain Tryd.underlying4 rfl _) k0'.cell k1'.cell, by unfold tdS; rw [hA]; rfl, by rw [hH]; exact h6.grown (grownBy_putObj' W D _) (by omega) (fun k e => by cases e; omega)⟩
end Go.Proofs.YtkmpmphabohkkaaDoor
