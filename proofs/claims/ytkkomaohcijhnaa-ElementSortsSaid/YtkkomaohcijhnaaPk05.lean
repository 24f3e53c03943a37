/-
  Lemmas and contracts of functions, for the proofs of this seat's laws; nothing of a law.
-/
import Derived.Deep.QuietTactic
import Derived.Deep.AppendLies
import Derived.Deep.LoopGhost
import Derived.OwnWalk
import Derived.Test.YtkkomaohcijhnaaChecked
import Derived.WalkKit
import Derived.ProofKit
import Derived.Below
import Derived.Outline
import Derived.Lib.Hide
import Derived.BigQuiet
import Derived.LoopTactic
import Derived.Deep.DeepMust
import Derived.WalkLawsBesides
import Derived.Lib.SortBridge
import Derived.Lib.SliceRun
import Derived.BigRegion
import Derived.Deep.RegionHeld3
import Derived.Test.YtkkomaohcijhnaaPk01
import Derived.Test.YtkkomaohcijhnaaPk02
import Derived.Test.YtkkomaohcijhnaaPk03
namespace Go.Proofs.Ytkkomaohcijhnaa
def ordR (ls : List (List UInt8)) : Bool := (List.range (ls.length - 1)).all fun i => decide (lex (ls.getD i []) (ls.getD (i + 1) []) = -1)
theorem ordR_iff {ls : List (List UInt8)} : ordR ls = true ↔ ∀ i, i + 1 < ls.length → lex (ls.getD i []) (ls.getD (i + 1) []) = -1 := by
  unfold ordR
  rw [List.all_eq_true]
  constructor
  · intro h i hi
    exact of_decide_eq_true (h i (List.mem_range.2 (by omega)))
  · intro h i hi
    exact decide_eq_true (h i (by have := List.mem_range.1 hi; omega))
def asc (ls : List (List UInt8)) : Prop := ls.Pairwise fun x y => lex x y = -1
theorem lex_self (x : List UInt8) : lex x x = 0 := (lex_zero x x).2 rfl
theorem lex_lt_trans {x y z : List UInt8} (h1 : lex x y = -1) (h2 : lex y z = -1) : lex x z = -1 := by
  have h3 := lex_trans x y z (by omega) (by omega)
  have h4 := lex_bd x z
  rcases (by omega : lex x z = -1 ∨ lex x z = 0) with h | h
  · exact h
  · have := (lex_zero x z).1 h
    subst this
    have := lex_anti x y
    omega
theorem lex_le_lt {x y z : List UInt8} (h1 : lex x y ≤ 0) (h2 : lex y z = -1) : lex x z = -1 := by
  have hb := lex_bd x y
  rcases (by omega : lex x y = -1 ∨ lex x y = 0) with h | h
  · exact lex_lt_trans h h2
  · have := (lex_zero x y).1 h
    subst this
    exact h2
theorem asc_ord {ls : List (List UInt8)} (h : asc ls) : ordR ls = true := ordR_iff.2 fun i hi => by
  have := List.pairwise_iff_getElem.1 h i (i + 1) (by omega) hi (by omega)
  simpa [List.getD_eq_getElem?_getD, List.getElem?_eq_getElem, hi, (by omega : i < ls.length)] using this
def insS (x : List UInt8) : List (List UInt8) → List (List UInt8)
  | [] => [x]
  | y :: r => if lex x y = -1 then x :: y :: r else if x = y then y :: r else y :: insS x r
def srt (ls : List (List UInt8)) : List (List UInt8) := ls.foldr insS []
theorem mem_insS {x z : List UInt8} : ∀ {l : List (List UInt8)}, z ∈ insS x l ↔ z = x ∨ z ∈ l
  | [] => by simp [insS]
  | y :: r => by
    unfold insS
    split
    · simp
    · split
      · rename_i h
        subst h
        simp
      · rw [List.mem_cons, mem_insS, List.mem_cons]
        constructor
        · rintro (h | h | h)
          · exact .inr (.inl h)
          · exact .inl h
          · exact .inr (.inr h)
        · rintro (h | h | h)
          · exact .inr (.inl h)
          · exact .inl h
          · exact .inr (.inr h)
theorem asc_insS {x : List UInt8} : ∀ {l : List (List UInt8)}, asc l → asc (insS x l)
  | [], _ => List.pairwise_singleton _ _
  | y :: r, h => by
    have h1 : (∀ z ∈ r, lex y z = -1) ∧ asc r := List.pairwise_cons.1 h
    unfold insS
    split
    · rename_i hxy
      refine List.pairwise_cons.2 ⟨fun z hz => ?_, h⟩
      rcases List.mem_cons.1 hz with rfl | hz
      · exact hxy
      · exact lex_lt_trans hxy (h1.1 z hz)
    · split
      · exact h
      · rename_i hxy hne
        refine List.pairwise_cons.2 ⟨fun z hz => ?_, asc_insS h1.2⟩
        rcases mem_insS.1 hz with rfl | hz
        · have hb := lex_bd z y
          have ha := lex_anti z y
          have h0 : lex z y ≠ 0 := fun e => hne ((lex_zero z y).1 e)
          omega
        · exact h1.1 z hz
theorem mem_srt {z : List UInt8} : ∀ {ls : List (List UInt8)}, z ∈ srt ls ↔ z ∈ ls
  | [] => Iff.rfl
  | x :: l => by
    show z ∈ insS x (srt l) ↔ _
    rw [mem_insS, mem_srt, List.mem_cons]
theorem asc_srt : ∀ ls : List (List UInt8), asc (srt ls)
  | [] => List.Pairwise.nil
  | _ :: l => asc_insS (asc_srt l)
theorem asc_uniq : ∀ {l l' : List (List UInt8)}, asc l → asc l' → (∀ x, x ∈ l ↔ x ∈ l') → l = l'
  | [], [], _, _, _ => rfl
  | [], y :: r, _, _, h => absurd ((h y).2 (List.mem_cons_self ..)) (by simp)
  | x :: r, [], _, _, h => absurd ((h x).1 (List.mem_cons_self ..)) (by simp)
  | x :: r, y :: r', h1, h2, h => by
    have a1 : (∀ z ∈ r, lex x z = -1) ∧ asc r := List.pairwise_cons.1 h1
    have a2 : (∀ z ∈ r', lex y z = -1) ∧ asc r' := List.pairwise_cons.1 h2
    have hxy : x = y := by
      rcases List.mem_cons.1 ((h x).1 (List.mem_cons_self ..)) with e | e
      · exact e
      · rcases List.mem_cons.1 ((h y).2 (List.mem_cons_self ..)) with e2 | e2
        · exact e2.symm
        · have := a2.1 x e
          have := a1.1 y e2
          have := lex_anti x y
          omega
    subst hxy
    have : r = r' := asc_uniq a1.2 a2.2 fun z => by
      constructor
      · intro hz
        rcases List.mem_cons.1 ((h z).1 (List.mem_cons_of_mem _ hz)) with e | e
        · have := a1.1 z hz
          rw [e, lex_self] at this
          cases this
        · exact e
      · intro hz
        rcases List.mem_cons.1 ((h z).2 (List.mem_cons_of_mem _ hz)) with e | e
        · have := a2.1 z hz
          rw [e, lex_self] at this
          cases this
        · exact e
    rw [this]
theorem srt_same {l l' : List (List UInt8)} (h : ∀ x, x ∈ l ↔ x ∈ l') : srt l = srt l' :=
  asc_uniq (asc_srt l) (asc_srt l') fun x => by rw [mem_srt, mem_srt]; exact h x
theorem srt_of {l ls : List (List UInt8)} (h : asc l) (hm : ∀ x, x ∈ l ↔ x ∈ ls) : l = srt ls := asc_uniq h (asc_srt ls) fun x => by rw [mem_srt]; exact hm x
def above (out : List (List UInt8)) (x : List UInt8) : Prop := ∀ y ∈ out, lex y x = -1
def low (out ls : List (List UInt8)) : Prop := asc out ∧ (∀ x ∈ out, x ∈ ls) ∧ ∀ x ∈ ls, x ∈ out ∨ above out x
theorem low_nil (ls : List (List UInt8)) : low [] ls := ⟨List.Pairwise.nil, fun x h => absurd h (by simp), fun _ _ => .inr fun y h => absurd h (by simp)⟩
theorem low_step {out ls : List (List UInt8)} {m : List UInt8} (h : low out ls) (hm : m ∈ ls) (ha : above out m) (hl : ∀ x ∈ ls, above out x → lex m x ≤ 0) : low (out ++ [m]) ls := by
  refine ⟨List.pairwise_append.2 ⟨h.1, List.pairwise_singleton _ _, fun x hx y hy => ?_⟩, fun x hx => ?_, fun x hx => ?_⟩
  · rw [List.mem_singleton.1 hy]
    exact ha x hx
  · rcases List.mem_append.1 hx with hx | hx
    · exact h.2.1 x hx
    · rw [List.mem_singleton.1 hx]
      exact hm
  · rcases h.2.2 x hx with h1 | h1
    · exact .inl (List.mem_append_left _ h1)
    · have h2 := hl x hx h1
      have hb := lex_bd m x
      rcases (by omega : lex m x = -1 ∨ lex m x = 0) with h3 | h3
      · refine .inr fun y hy => ?_
        rcases List.mem_append.1 hy with hy | hy
        · exact h1 y hy
        · rw [List.mem_singleton.1 hy]
          exact h3
      · have := (lex_zero m x).1 h3
        subst this
        exact .inl (List.mem_append_right _ (List.mem_singleton.2 rfl))
theorem low_end {out ls : List (List UInt8)} (h : low out ls) (hn : ∀ x ∈ ls, ¬ above out x) : out = srt ls :=
  srt_of h.1 fun x => ⟨h.2.1 x, fun hx => (h.2.2 x hx).resolve_right (hn x hx)⟩
theorem above_last {out : List (List UInt8)} {z x : List UInt8} (h : asc (out ++ [z])) : above (out ++ [z]) x ↔ lex z x = -1 := by
  obtain ⟨_, _, h3⟩ := List.pairwise_append.1 h
  constructor
  · intro ha
    exact ha z (List.mem_append_right _ (List.mem_singleton.2 rfl))
  · intro hz y hy
    rcases List.mem_append.1 hy with hy | hy
    · exact lex_lt_trans (h3 y hy z (List.mem_singleton.2 rfl)) hz
    · rw [List.mem_singleton.1 hy]
      exact hz
def left_ (out ls : List (List UInt8)) : Nat := ls.countP fun x => decide (x ∉ out)
theorem left_step {out ls : List (List UInt8)} {m : List UInt8} (hm : m ∈ ls) (ha : above out m) : left_ (out ++ [m]) ls < left_ out ls := by
  have hmo : m ∉ out := fun h => by have := ha m h; rw [lex_self] at this; cases this
  unfold left_
  induction ls with
  | nil => cases hm
  | cons x l ih =>
    rw [List.countP_cons, List.countP_cons]
    have hle : ∀ l : List (List UInt8), l.countP (fun x => decide (x ∉ out ++ [m])) ≤ l.countP (fun x => decide (x ∉ out)) := fun l => List.countP_mono_left fun y _ hy => by
      have := of_decide_eq_true hy
      exact decide_eq_true fun hyo => this (List.mem_append_left _ hyo)
    by_cases hx : x = m
    · subst hx
      have h1 : decide (x ∉ out ++ [x]) = false := decide_eq_false (by simp)
      have h2 : decide (x ∉ out) = true := decide_eq_true hmo
      have := hle l
      simp only [h1, h2, Bool.false_eq_true, if_false, if_true]
      omega
    · have h3 := ih (by rcases List.mem_cons.1 hm with e | e; exact absurd e.symm hx; exact e)
      have h4 : (decide (x ∉ out ++ [m])) = decide (x ∉ out) := by
        congr 1
        simp [hx]
      rw [h4]
      omega
end Go.Proofs.Ytkkomaohcijhnaa
namespace Go.Proofs.Ytkkomaohcijhnaa
open Go.RowKit
def cellsS (ss : List Sl) : List Value := ss.map Sl.v
theorem cellsS_one (ss : List Sl) : ∀ u ∈ cellsS ss, u.oneCell' = true := by
  intro u hu
  obtain ⟨s, _, rfl⟩ := List.mem_map.1 hu
  rfl
def OwnS (w : World) (B : Nat) (e : TypeId) (a : Option Addr) (n c : Nat) (ss : List Sl) : Prop := ss.length = n ∧ w.ownsRow B e 1 (.slice a n c) n (cellsS ss)
theorem OwnS.nil_ (w : World) (B : Nat) (e : TypeId) : OwnS w B e none 0 0 [] := ⟨rfl, World.ownsRow_nil _ _ _ _⟩
theorem OwnS.base {w : World} {B : Nat} {e : TypeId} {a : Option Addr} {n c : Nat} {ss : List Sl} (h : OwnS w B e a n c ss) : ∀ x, a = some x → B ≤ x.block ∧ x.block < w.heap.size := by
  intro x hx
  subst hx
  have hlt := h.2.lt
  rcases h.2.2 with ⟨hv, _⟩ | ⟨g, cap, cur, hv, hB, _⟩
  · cases hv
  · injection hv with e1 e2 e3
    injection e1 with e1
    subst e1
    exact hlt g rfl
theorem OwnS.keep {w w' : World} {B : Nat} {e : TypeId} {a : Option Addr} {n c : Nat} {ss : List Sl} (h : OwnS w B e a n c ss) (hk : ∀ x, a = some x → w'.heap[x.block]? = w.heap[x.block]?) : OwnS w' B e a n c ss := by
  obtain ⟨hl, h1, h2⟩ := h
  refine ⟨hl, h1, ?_⟩
  rcases h2 with h2 | ⟨g, cap, cur, hv, hB, hh, r⟩
  · exact .inl h2
  · refine .inr ⟨g, cap, cur, hv, hB, ?_, r⟩
    injection hv with e1 e2 e3
    rw [hk _ e1]
    exact hh
theorem OwnS.below {w w' : World} {B : Nat} {e : TypeId} {a : Option Addr} {n c : Nat} {ss : List Sl} (h : OwnS w B e a n c ss) (hb : Below w.heap.size w w') : OwnS w' B e a n c ss :=
  h.keep fun x hx => hb.block _ (h.base x hx).2
theorem OwnS.drewN {w : World} {B : Nat} {e : TypeId} {a : Option Addr} {n c : Nat} {ss : List Sl} (h : OwnS w B e a n c ss) (k : Nat) : OwnS (w.drewN k) B e a n c ss := h
theorem OwnS.rw_ {w : World} {B : Nat} {e : TypeId} {a : Option Addr} {n c : Nat} {ss : List Sl} (h : OwnS w B e a n c ss) (hb : ∀ s ∈ ss, Bs w s.a s.n s.c s.l) : Rw w a n c ss := by
  refine ⟨?_, fun i hi => hb _ (List.getElem_mem hi)⟩
  obtain ⟨hl, h1, h2⟩ := h
  rcases h2 with ⟨hv, h0⟩ | ⟨g, cap, cur, hv, hB, hh, hnc, hm, hs, ht⟩
  · injection hv with e1 e2 e3
    subst e1; subst e2; subst e3
    have : ss = [] := List.eq_nil_of_length_eq_zero hl
    subst this
    exact (Rw.nil_ w).1
  · injection hv with e1 e2 e3
    subst e1; subst e3
    have hg : g < w.heap.size := by
      rcases Nat.lt_or_ge g w.heap.size with hg | hg
      · exact hg
      · rw [Array.getElem?_eq_none hg] at hh; cases hh
    refine ⟨hl, hnc, hm, fun hpos => ⟨g, 0, rfl, hg, fun i hi => ?_⟩⟩
    have hc : (cellsS ss)[i]? = some (.slice ss[i].a ss[i].n ss[i].c) := by
      unfold cellsS
      rw [List.getElem?_map, List.getElem?_eq_getElem hi]
      rfl
    rw [← ht, List.getElem?_take, if_pos (by omega)] at hc
    rw [Nat.zero_add]
    simp only [World.cell?, hh]
    simpa using hc
theorem quiet_drewE {P : Program} {f : FuncId} {args : Array Value} {w : World} {n : Nat} {v : Value}
    (h : Calls P f args (w.drewN n) fun e w' => e = .returned v ∧ ∃ k, w' = (w.drewN n).drewN k) : Calls P f args (w.drewN n) fun e w'' => e = .returned v ∧ ∃ m, w'' = w.drewN m :=
  h.mono fun _ _ ⟨he, k, hm⟩ => ⟨he, n + k, by rw [hm, World.drewN_drewN]⟩
theorem quiet_drew_addE {P : Program} {f : FuncId} {args : Array Value} {w : World} {a n : Nat} {v : Value}
    (h : Calls P f args (w.drewN (a + n)) fun e w' => e = .returned v ∧ ∃ k, w' = (w.drewN (a + n)).drewN k) : Calls P f args (w.drewN (a + n)) fun e w'' => e = .returned v ∧ ∃ m, w'' = w.drewN (a + m) :=
  h.mono fun _ _ ⟨he, k, hm⟩ => ⟨he, n + k, by rw [hm, World.drewN_drewN, Nat.add_assoc]⟩
theorem ord_get {ss : List Sl} {i : Nat} (h : i < ss.length) : (lsOf ss).getD i [] = ss[i].l := by
  rw [List.getD_eq_getElem?_getD, List.getElem?_eq_getElem (by rw [lsOf_len]; exact h), lsOf_at h]
  rfl
set_option maxRecDepth 100000 in
set_option maxHeartbeats 4000000 in
theorem ref_ordered_any {w : World} {a : Option Addr} {n c : Nat} {ss : List Sl} (hx : Rw w a n c ss) :
    Calls Try.prog 30 #[.slice a n c] w fun e w' => e = .returned (.bool (ordR (lsOf ss))) ∧ ∃ k, w' = w.drewN k := by
  have HX := Lib.hid hx
  have hn : n ≤ 9223372036854775807 := by have := hx.1.2.1; have := hx.1.2.2.1; unfold maxLen at this; omega
  have HL := Lib.hid hx.len
  obtain ⟨R, hR⟩ : ∃ R, ordR (lsOf ss) = R := ⟨_, rfl⟩
  have HR := Lib.hid hR
  rw [hR]
  clear hx hR
  go_enter Try.func30, Try.ntmps30
  go_wp2_with fail
  go_loopw [3] (fun i wr => ∃ j k : Nat, 1 ≤ j ∧ (j ≤ n ∨ j = 1) ∧ i = .int .i64 j ∧ (∀ t, t + 1 < j → lex ((lsOf ss).getD t []) ((lsOf ss).getD (t + 1) []) = -1) ∧ wr = w.drewN k) (fun i _ => n - (intOf i).toNat)
  case atStart => exact ⟨1, 0, Nat.le_refl _, .inr rfl, rfl, fun t ht => by omega, rfl⟩
  case round =>
    obtain ⟨j, k, hj1, hj, rfl, hall, rfl⟩ := hrel
    have HALL := Lib.hid hall
    clear hall
    have hj0 : (0 : Int) ≤ j := by omega
    by_cases hlt : j < n
    · have hlt2 : (j : Int) < n := by omega
      obtain ⟨i, rfl⟩ : ∃ i, j = i + 1 := ⟨j - 1, by omega⟩
      obtain ⟨b1, o1, l1, rfl, h1, c1, s1⟩ := HX.out.at_ (i := i) (by omega)
      obtain ⟨b2, o2, l2, e2, h2, c2, s2⟩ := HX.out.at_ hlt
      injection e2 with e2
      injection e2 with e2 e3
      subst e2; subst e3
      have HB := Lib.hid (fun q => ref_compare_any (s1.drewN (k + q)) (s2.drewN (k + q)))
      have g1 := ord_get l1
      have g2 := ord_get l2
      have G := Lib.hid (And.intro g1 g2)
      have t1 : IntKind.i64.wrap (((i + 1 : Nat) : Int) - 1) = i := by rw [IntKind.wrap_i64]; omega
      have t2 : (((i + 1 : Nat) : Int) - 1) = i := by omega
      have ht0 : (0 : Int) ≤ i := by omega
      have ht1 : (i : Int) < n := by omega
      clear g1 g2 s1 s2
      obtain ⟨x, hx⟩ : ∃ x, ss[i] = x := ⟨_, rfl⟩
      obtain ⟨y, hy⟩ : ∃ y, ss[i + 1] = y := ⟨_, rfl⟩
      rw [hx] at c1 G
      rw [hy] at c2 G
      simp only [hx, hy] at HB
      clear hx hy
      obtain ⟨xa, xn, xc, xl⟩ := x
      obtain ⟨ya, yn, yc, yl⟩ := y
      dsimp only at HB c1 c2 G
      obtain ⟨z, hz⟩ : ∃ z, lex xl yl = z := ⟨_, rfl⟩
      rw [hz] at HB
      have HZ := Lib.hid hz
      clear hz
      by_cases hm : z = -1
      · subst hm
        go_wp2_with fail
        go_quiet ((go_at_call 31; first | with_reducible exact quiet_drewE (HB.out _) | with_reducible exact quiet_drew_addE (HB.out _)))
        go_wp2_with fail
        refine ⟨⟨i + 1 + 1, k + nq, by omega, .inl (by omega), by go_num, fun t ht => ?_, by first | rfl | rw [World.drewN_drewN]⟩, by simp [intOf]; omega⟩
        rcases Nat.lt_or_ge (t + 1) (i + 1) with h | h
        · exact HALL.out t h
        · obtain rfl : t = i := by omega
          rw [G.out.1, G.out.2]
          exact HZ.out
      · have hmb : (z != -1) = true := by rw [bne_iff_ne]; exact hm
        have hres : R = false := by
          rw [← HR.out]
          rcases h : ordR (lsOf ss) with _ | _
          · rfl
          · have := ordR_iff.1 h i (by rw [lsOf_len]; exact l2)
            rw [G.out.1, G.out.2, HZ.out] at this
            exact absurd this hm
        subst hres
        go_wp2_with fail
        go_quiet ((go_at_call 31; first | with_reducible exact quiet_drewE (HB.out _) | with_reducible exact quiet_drew_addE (HB.out _)))
        go_wp2_with fail
        go_ret
        exact ⟨rfl, k + nq, by first | rfl | rw [World.drewN_drewN]⟩
    · have hlt2 : ¬ (j : Int) < n := by omega
      have hres : R = true := by
        rw [← HR.out]
        refine ordR_iff.2 fun i hi => HALL.out i ?_
        rw [lsOf_len, HL.out] at hi
        omega
      subst hres
      go_wp2_with fail
      go_ret
      exact ⟨rfl, k, rfl⟩
end Go.Proofs.Ytkkomaohcijhnaa
namespace Go.Proofs.Ytkkomaohcijhnaa
open Go.RowKit
theorem info_sl : (Try.prog.info? 22).map (fun i => (i.zero, i.size, i.bytes)) = some (some (.slice none 0 0), 1, 24) := by kernel_rfl
theorem lsOf_mem {ss : List Sl} {s : Sl} (h : s ∈ ss) : s.l ∈ lsOf ss := List.mem_map.2 ⟨s, h, rfl⟩
theorem lsOf_ex {ss : List Sl} {x : List UInt8} (h : x ∈ lsOf ss) : ∃ i, ∃ hi : i < ss.length, ss[i].l = x := by
  obtain ⟨s, hs, rfl⟩ := List.mem_map.1 h
  obtain ⟨i, hi, rfl⟩ := List.mem_iff_getElem.1 hs
  exact ⟨i, hi, rfl⟩
theorem lsOf_snoc (os : List Sl) (s : Sl) : lsOf (os ++ [s]) = lsOf os ++ [s.l] := by simp [lsOf]
def bestOf (out : List (List UInt8)) (ss : List Sl) (j : Nat) (b : Value) : Prop :=
  (b = .int .i64 (-1) ∧ ∀ t (h : t < ss.length), t < j → ¬ above out ss[t].l) ∨
  ∃ t, ∃ ht : t < ss.length, b = .int .i64 t ∧ above out ss[t].l ∧ ∀ u (h : u < ss.length), u < j → above out ss[u].l → lex ss[t].l ss[u].l ≤ 0
theorem best_zero (out : List (List UInt8)) (ss : List Sl) : bestOf out ss 0 (.int .i64 (-1)) := .inl ⟨rfl, fun t _ h => absurd h (by omega)⟩
theorem best_skip {out : List (List UInt8)} {ss : List Sl} {j : Nat} {b : Value} (h : bestOf out ss j b) (hj : j < ss.length) (hn : ¬ above out ss[j].l) : bestOf out ss (j + 1) b := by
  rcases h with ⟨e, h⟩ | ⟨t, ht, e, ha, h⟩
  · refine .inl ⟨e, fun t h1 h2 => ?_⟩
    rcases (by omega : t < j ∨ t = j) with h3 | rfl
    · exact h t h1 h3
    · exact hn
  · refine .inr ⟨t, ht, e, ha, fun u h1 h2 h3 => ?_⟩
    rcases (by omega : u < j ∨ u = j) with h4 | rfl
    · exact h u h1 h4 h3
    · exact absurd h3 hn
theorem best_take {out : List (List UInt8)} {ss : List Sl} {j : Nat} {b : Value} (h : bestOf out ss j b) (hj : j < ss.length) (ha : above out ss[j].l)
    (hlt : b = .int .i64 (-1) ∨ ∃ t, ∃ _ : t < ss.length, b = .int .i64 t ∧ lex ss[j].l ss[t].l < 0) : bestOf out ss (j + 1) (.int .i64 j) := by
  refine .inr ⟨j, hj, rfl, ha, fun u h1 h2 h3 => ?_⟩
  rcases (by omega : u < j ∨ u = j) with h4 | rfl
  · rcases h with ⟨e, h⟩ | ⟨t, ht, e, _, h⟩
    · exact absurd h3 (h u h1 h4)
    · rcases hlt with e2 | ⟨t2, ht2, e2, hl⟩
      · rw [e] at e2
        injection e2 with _ e2
        omega
      · rw [e] at e2
        injection e2 with _ e2
        have : t = t2 := by omega
        subst this
        exact lex_trans _ _ _ (by omega) (h u h1 h4 h3)
  · rw [lex_self]
    exact Int.le_refl _
theorem best_keep {out : List (List UInt8)} {ss : List Sl} {j t : Nat} (h : bestOf out ss j (.int .i64 t)) (ht : t < ss.length) (hj : j < ss.length) (hge : ¬ lex ss[j].l ss[t].l < 0) : bestOf out ss (j + 1) (.int .i64 t) := by
  rcases h with ⟨e, _⟩ | ⟨t2, ht2, e, ha, h⟩
  · injection e with _ e
    omega
  · injection e with _ e
    have : t = t2 := by omega
    subst this
    refine .inr ⟨t, ht, rfl, ha, fun u h1 h2 h3 => ?_⟩
    rcases (by omega : u < j ∨ u = j) with h4 | rfl
    · exact h u h1 h4 h3
    · have := lex_anti ss[t].l ss[u].l
      omega
set_option maxRecDepth 100000 in
set_option maxHeartbeats 16000000 in
theorem ref_sorted_any {w : World} {a : Option Addr} {n c : Nat} {ss : List Sl} (hx : Rw w a n c ss) (hz : n ≤ 1000000) :
    Calls Try.prog 28 #[.slice a n c] w fun e w' => ∃ a' c' os, e = .returned (.slice a' os.length c') ∧ OwnS w' w.heap.size 22 a' os.length c' os ∧ (∀ s ∈ os, s ∈ ss) ∧ lsOf os = srt (lsOf ss) ∧ Below w.heap.size w w' := by
  have HX := Lib.hid hx
  have HL := Lib.hid hx.len
  have hn : (n : Int) ≤ 1000000 := by omega
  obtain ⟨i0, hi, hz0, hz1, hz2⟩ := info_partsE info_sl
  obtain ⟨H, hH⟩ : ∃ H, w.heap.size = H := ⟨_, rfl⟩
  rw [hH]
  have HH := Lib.hid hH
  clear hx hH
  go_enter Try.func28, Try.ntmps28
  go_wp2_with fail
  go_loopg [3] (left_ [] (lsOf ss)) (fun kx o wr => ∃ ao co os, o = .slice ao os.length co ∧ OwnS wr H 22 ao os.length co os ∧ (∀ s ∈ os, s ∈ ss) ∧ low (lsOf os) (lsOf ss) ∧ left_ (lsOf os) (lsOf ss) ≤ kx ∧ os.length + left_ (lsOf os) (lsOf ss) ≤ n ∧ Below H w wr ∧ H ≤ wr.heap.size)
  case atStart =>
    refine ⟨none, 0, [], rfl, OwnS.nil_ _ _ _, fun s h => absurd h (by simp), low_nil _, Nat.le_refl _, ?_, Below.refl _ _, Nat.le_of_eq HH.out.symm⟩
    have := List.countP_le_length (p := fun x => decide (x ∉ lsOf ([] : List Sl))) (l := lsOf ss)
    rw [lsOf_len, HL.out] at this
    show 0 + _ ≤ n
    rw [Nat.zero_add]
    exact this
  case round =>
    obtain ⟨ao, co, os, rfl, ho, hmem, hlow, hleft, hlen, hq, hsz⟩ := hrel
    have O4 := Lib.hid ho
    have MM := Lib.hid hmem
    have LW := Lib.hid hlow
    have LF := Lib.hid hleft
    have LN := Lib.hid hlen
    have Q4 := Lib.hid hq
    have SZ := Lib.hid hsz
    have X4 : Hid (Rw wr a n c ss) := HX.out.below (by rw [HH.out]; exact hq)
    have W4 : Hid (Rw wr ao os.length co os) := ho.rw_ fun s hs => by
      obtain ⟨i, hi, rfl⟩ := List.mem_iff_getElem.1 (hmem s hs)
      exact X4.out.2 i hi
    have hol : os.length ≤ 1000000 := by omega
    clear ho hmem hlow hleft hlen hq hsz
    go_wp2_with fail
    go_loopw [4, 5] (fun b i wv => ∃ j k : Nat, j ≤ n ∧ i = .int .i64 j ∧ bestOf (lsOf os) ss j b ∧ wv = wr.drewN k) (fun _ i _ => n - (intOf i).toNat)
    case atStart => exact ⟨0, 0, Nat.zero_le _, rfl, best_zero _ _, rfl⟩
    case round =>
      obtain ⟨j, k, hj, rfl, hbest, rfl⟩ := hrel
      have hj0 : (0 : Int) ≤ j := by omega
      by_cases hlt : j < n
      · have hlt2 : (j : Int) < n := by omega
        obtain ⟨b1, o1, hjl, rfl, h1, c1, s1'⟩ := X4.out.at_ hlt
        have s1 := Lib.hid s1'
        clear s1'
        rcases List.eq_nil_or_concat os with rfl | ⟨os', z, rfl⟩
        · have HA : Hid (above (lsOf []) ss[j].l) := fun y hy => absurd hy (by simp [lsOf])
          simp only [List.length_nil] at W4 hol ⊢
          rcases hbest with ⟨rfl, hb⟩ | ⟨t, ht, rfl, hta, htl⟩
          · have HB1 := Lib.hid (best_take (.inl ⟨rfl, hb⟩) hjl HA.out (.inl rfl))
            clear hb
            go_wp2_with fail
            go_quiet (fail)
            go_wp2_with fail
            go_quiet (fail)
            go_wp2_with fail
            exact ⟨⟨j + 1, _, by omega, by go_num, HB1.out, rfl⟩, by simp [intOf]; omega⟩
          · have htn : t < n := by have := HL.out; omega
            obtain ⟨b3, o3, l3, e3, h3, c3, s3⟩ := X4.out.at_ htn
            injection e3 with e3
            injection e3 with e3 e4
            subst e3; subst e4
            have HC2 := Lib.hid (fun q => ref_compare_any (s1.out.drewN (k + q)) (s3.drewN (k + q)))
            have HC3 := Lib.hid (fun q1 q => ref_compare_any (s1.out.drewN (k + q1 + q)) (s3.drewN (k + q1 + q)))
            have ht0 : (0 : Int) ≤ t := by omega
            have ht1 : (t : Int) < n := by omega
            have ht2 : decide ((t : Int) < 0) = false := decide_eq_false (by omega)
            rcases hcm : decide (lex ss[j].l ss[t].l < 0) with _ | _
            · have HB1 := Lib.hid (best_keep (.inr ⟨t, ht, rfl, hta, htl⟩) ht hjl (of_decide_eq_false hcm))
              clear hta htl s3
              go_wp2_with fail
              go_quiet (fail)
              have ht4 : decide ((t : Int) < 0) = false := decide_eq_false (by omega)
              have ht5 : ((t : Int) < 0) = False := eq_false (by omega)
              go_wp2_with fail
              go_quiet ((go_at_call 31; first | with_reducible exact quiet_drewE (HC2.out _) | with_reducible exact quiet_drew_addE (HC2.out _) | with_reducible exact quiet_drewE (HC3.out _ _) | with_reducible exact quiet_drew_addE (HC3.out _ _)))
              go_wp2_with fail
              exact ⟨⟨j + 1, _, by omega, by go_num, HB1.out, rfl⟩, by simp [intOf]; omega⟩
            · have HB1 := Lib.hid (best_take (.inr ⟨t, ht, rfl, hta, htl⟩) hjl HA.out (.inr ⟨t, ht, rfl, of_decide_eq_true hcm⟩))
              clear hta htl s3
              go_wp2_with fail
              go_quiet (fail)
              have ht4 : decide ((t : Int) < 0) = false := decide_eq_false (by omega)
              have ht5 : ((t : Int) < 0) = False := eq_false (by omega)
              go_wp2_with fail
              go_quiet ((go_at_call 31; first | with_reducible exact quiet_drewE (HC2.out _) | with_reducible exact quiet_drew_addE (HC2.out _) | with_reducible exact quiet_drewE (HC3.out _ _) | with_reducible exact quiet_drew_addE (HC3.out _ _)))
              go_wp2_with fail
              exact ⟨⟨j + 1, _, by omega, by go_num, HB1.out, rfl⟩, by simp [intOf]; omega⟩
        · rw [List.concat_eq_append] at *
          have hll : (os' ++ [z]).length = os'.length + 1 := by simp
          obtain ⟨m, hm⟩ : ∃ m, os'.length = m := ⟨_, rfl⟩
          rw [hm] at hll
          rw [hll] at W4 hol ⊢
          obtain ⟨b2, o2, l2, rfl, h2, c2, s2⟩ := W4.out.at_ (i := m) (by omega)
          have hzz : (os' ++ [z])[m] = z := by subst hm; simp
          rw [hzz] at c2 s2
          have AB := Lib.hid (above_last (out := lsOf os') (z := z.l) (x := ss[j].l) (by rw [← lsOf_snoc]; exact LW.out.1))
          rw [← lsOf_snoc] at AB
          have HC := Lib.hid (fun q => ref_compare_any (s1.out.drewN (k + q)) (s2.drewN (k + q)))
          have t1 : IntKind.i64.wrap (((m + 1 : Nat) : Int) - 1) = m := by rw [IntKind.wrap_i64]; omega
          have t2 : ((m + 1 : Nat) : Int) - 1 = m := by omega
          have t3 : (0 : Int) < ((m + 1 : Nat) : Int) := by omega
          have t4 : (0 : Int) ≤ m := by omega
          have t5 : (m : Int) < ((m + 1 : Nat) : Int) := by omega
          clear s2 hzz hll
          rcases hcm0 : decide (lex ss[j].l z.l ≤ 0) with _ | _
          · have HA : Hid (above (lsOf (os' ++ [z])) ss[j].l) := by
              rw [Hid]
              refine AB.out.2 ?_
              have := of_decide_eq_false hcm0
              have h1 := lex_anti ss[j].l z.l
              have h2 := lex_bd z.l ss[j].l
              omega
            rcases hbest with ⟨rfl, hb⟩ | ⟨t, ht, rfl, hta, htl⟩
            · have HB1 := Lib.hid (best_take (.inl ⟨rfl, hb⟩) hjl HA.out (.inl rfl))
              clear hb
              go_wp2_with fail
              go_quiet ((go_at_call 31; first | with_reducible exact quiet_drewE (HC.out _) | with_reducible exact quiet_drew_addE (HC.out _)))
              go_wp2_with fail
              go_quiet (fail)
              go_wp2_with fail
              exact ⟨⟨j + 1, _, by omega, by go_num, HB1.out, rfl⟩, by simp [intOf]; omega⟩
            · have htn : t < n := by have := HL.out; omega
              obtain ⟨b3, o3, l3, e3, h3, c3, s3⟩ := X4.out.at_ htn
              injection e3 with e3
              injection e3 with e3 e4
              subst e3; subst e4
              have HC2 := Lib.hid (fun q => ref_compare_any (s1.out.drewN (k + q)) (s3.drewN (k + q)))
              have HC3 := Lib.hid (fun q1 q => ref_compare_any (s1.out.drewN (k + q1 + q)) (s3.drewN (k + q1 + q)))
              have ht0 : (0 : Int) ≤ t := by omega
              have ht1 : (t : Int) < n := by omega
              have ht2 : decide ((t : Int) < 0) = false := decide_eq_false (by omega)
              rcases hcm : decide (lex ss[j].l ss[t].l < 0) with _ | _
              · have HB1 := Lib.hid (best_keep (.inr ⟨t, ht, rfl, hta, htl⟩) ht hjl (of_decide_eq_false hcm))
                clear hta htl s3
                go_wp2_with fail
                go_quiet ((go_at_call 31; first | with_reducible exact quiet_drewE (HC.out _) | with_reducible exact quiet_drew_addE (HC.out _)))
                have ht4 : decide ((t : Int) < 0) = false := decide_eq_false (by omega)
                have ht5 : ((t : Int) < 0) = False := eq_false (by omega)
                go_wp2_with fail
                go_quiet ((go_at_call 31; first | with_reducible exact quiet_drewE (HC2.out _) | with_reducible exact quiet_drew_addE (HC2.out _) | with_reducible exact quiet_drewE (HC3.out _ _) | with_reducible exact quiet_drew_addE (HC3.out _ _)))
                go_wp2_with fail
                exact ⟨⟨j + 1, _, by omega, by go_num, HB1.out, rfl⟩, by simp [intOf]; omega⟩
              · have HB1 := Lib.hid (best_take (.inr ⟨t, ht, rfl, hta, htl⟩) hjl HA.out (.inr ⟨t, ht, rfl, of_decide_eq_true hcm⟩))
                clear hta htl s3
                go_wp2_with fail
                go_quiet ((go_at_call 31; first | with_reducible exact quiet_drewE (HC.out _) | with_reducible exact quiet_drew_addE (HC.out _)))
                have ht4 : decide ((t : Int) < 0) = false := decide_eq_false (by omega)
                have ht5 : ((t : Int) < 0) = False := eq_false (by omega)
                go_wp2_with fail
                go_quiet ((go_at_call 31; first | with_reducible exact quiet_drewE (HC2.out _) | with_reducible exact quiet_drew_addE (HC2.out _) | with_reducible exact quiet_drewE (HC3.out _ _) | with_reducible exact quiet_drew_addE (HC3.out _ _)))
                go_wp2_with fail
                exact ⟨⟨j + 1, _, by omega, by go_num, HB1.out, rfl⟩, by simp [intOf]; omega⟩
          · have HN : ¬ above (lsOf (os' ++ [z])) ss[j].l := by
              intro h
              have h1 := AB.out.1 h
              have h2 := of_decide_eq_true hcm0
              have h3 := lex_anti ss[j].l z.l
              omega
            have HB1 := Lib.hid (best_skip hbest hjl HN)
            clear hbest HN
            go_wp2_with fail
            go_quiet ((go_at_call 31; first | with_reducible exact quiet_drewE (HC.out _) | with_reducible exact quiet_drew_addE (HC.out _)))
            go_wp2_with fail
            exact ⟨⟨j + 1, _, by omega, by go_num, HB1.out, rfl⟩, by simp [intOf]; omega⟩
      · obtain rfl : j = n := by omega
        have hlt2 : ¬ (j : Int) < j := by omega
        rcases hbest with ⟨rfl, hb⟩ | ⟨t, ht, rfl, hta, htl⟩
        · have HE := Lib.hid (low_end LW.out fun x hx => by
            obtain ⟨i, hi, rfl⟩ := lsOf_ex hx
            exact hb i hi (by have := HL.out; omega))
          clear hb
          go_wp2_with fail
          go_ret
          exact ⟨ao, co, os, rfl, O4.out.drewN k, MM.out, HE.out, below_drewN Q4.out k⟩
        · have htn : t < j := by have := HL.out; omega
          obtain ⟨b3, o3, l3, rfl, h3, c3, s3⟩ := X4.out.at_ htn
          have ht0 : (0 : Int) ≤ t := by omega
          have ht1 : (t : Int) < j := by omega
          have ht2 : decide ((t : Int) < 0) = false := decide_eq_false (by omega)
          have LW2 := Lib.hid (low_step LW.out (lsOf_mem (List.getElem_mem ht)) hta fun x hx hax => by
            obtain ⟨u, hu, rfl⟩ := lsOf_ex hx
            exact htl u hu (by have := HL.out; omega) hax)
          have LF2 := Lib.hid (left_step (lsOf_mem (List.getElem_mem ht)) hta)
          rw [← lsOf_snoc] at LW2 LF2
          have MM2 : Hid (∀ s ∈ os ++ [ss[t]], s ∈ ss) := fun s hs => by
            rcases List.mem_append.1 hs with h | h
            · exact MM.out s h
            · rw [List.mem_singleton.1 h]
              exact List.getElem_mem ht
          clear hta htl s3 htn
          obtain ⟨x, hxx⟩ : ∃ x, ss[t] = x := ⟨_, rfl⟩
          rw [hxx] at c3 LW2 LF2 MM2
          clear hxx
          obtain ⟨xa, xn, xc, xl⟩ := x
          dsimp only at c3
          have O5 := Lib.hid ((O4.out.drewN k).below (bal (Below.refl _ (wr.drewN k)) (.cells #[.slice xa xn xc] 22)))
          have NB := Lib.hid (Blk.new (wr.drewN k) 22 #[.slice xa xn xc])
          have Q5 : Hid (Below H w ((wr.drewN k).alloc (.cells #[.slice xa xn xc] 22))) := (below_drewN Q4.out k).alloc SZ.out _
          have SZ5 : H ≤ ((wr.drewN k).alloc (.cells #[.slice xa xn xc] 22)).heap.size := by have := SZ.out; have := Q5.out.size; have := HH.out; omega
          have BA := Lib.hid (fun x hx => (O5.out.base x hx).1)
          go_wp2_with (at_builtin; go_must (refine wpList_append_lies _ rfl _ _ 41 rfl H 22 i0 (.slice none 0 0) 1 24 Try.underlying41 hi hz0 hz1 hz2 rfl (by decide) (.slice ao os.length co) os.length (cellsS os) rfl O5.out.2 ⟨_, 0, none⟩ 1 1 [.slice xa xn xc] rfl rfl (World.news_of_block NB.out) (by simp [Value.oneCell']) (by decide) (by unfold maxLen; omega) (by omega) SZ5 _ rfl ?_))
          intro g cap w6 hown6 hg6 hat hlt6
          have D6 : Hid (Below H _ w6) := row_belowE hg6 BA.out SZ5
          have O6 : Hid (OwnS w6 H 22 (some ⟨g, 0, none⟩) (os.length + 1) cap (os ++ [⟨xa, xn, xc, xl⟩])) := by
            refine ⟨by simp, ?_⟩
            have e : cellsS (os ++ [⟨xa, xn, xc, xl⟩]) = cellsS os ++ [.slice xa xn xc] := by simp [cellsS, Sl.v]
            rw [e]
            exact hown6
          have Q6 : Hid (Below H w w6) := Q5.out.trans D6.out
          have hs6 : H ≤ w6.heap.size := by have := D6.out.size; omega
          clear hown6 hg6 hat D6 O5 NB Q5 BA
          go_wp2_with fail
          go_roundg (left_ (lsOf (os ++ [⟨xa, xn, xc, xl⟩])) (lsOf ss))
          case measure => have := LF2.out; have := LF.out; omega
          case rel =>
            have hl2 : (os ++ [(⟨xa, xn, xc, xl⟩ : Sl)]).length = os.length + 1 := by simp
            exact ⟨some ⟨g, 0, none⟩, cap, os ++ [⟨xa, xn, xc, xl⟩], by rw [hl2], by rw [hl2]; exact O6.out, MM2.out, LW2.out, Nat.le_refl _, by rw [hl2]; have := LF2.out; have := LN.out; omega, Q6.out, hs6⟩
end Go.Proofs.Ytkkomaohcijhnaa
namespace Go.Proofs.Ytkkomaohcijhnaa
open Go.RowKit
theorem nan_b (x : Int) (w : World) : Calls Try.prog 69 #[.int .u8 x] w fun e w' => e = .returned (.bool false) ∧ w = w' := by
  go_enter Try.func69, Try.ntmps69
  go_wp2
  go_ret
  exact ⟨rfl, rfl⟩
theorem nan_i (x : Int) (w : World) : Calls Try.prog 70 #[.int .i64 x] w fun e w' => e = .returned (.bool false) ∧ w = w' := by
  go_enter Try.func70, Try.ntmps70
  go_wp2
  go_ret
  exact ⟨rfl, rfl⟩
theorem cmp_b (x y : Int) (w : World) : Calls Try.prog 56 #[.int .u8 x, .int .u8 y] w fun e w' => e = .returned (.int .i64 (sgn x y)) ∧ w = w' := by
  go_enter Try.func56, Try.ntmps56
  go_wp2_with (go_at_call 69; refine (nan_b _ _).mono ?_; rintro e w' ⟨rfl, rfl⟩)
  all_goals
    go_ret
    refine ⟨congrArg (fun z => Ending.returned (.int .i64 z)) ?_, rfl⟩
    unfold sgn
    (repeat split) <;> omega
theorem cmp_i (x y : Int) (w : World) : Calls Try.prog 57 #[.int .i64 x, .int .i64 y] w fun e w' => e = .returned (.int .i64 (sgn x y)) ∧ w = w' := by
  go_enter Try.func57, Try.ntmps57
  go_wp2_with (go_at_call 70; refine (nan_i _ _).mono ?_; rintro e w' ⟨rfl, rfl⟩)
  all_goals
    go_ret
    refine ⟨congrArg (fun z => Ending.returned (.int .i64 z)) ?_, rfl⟩
    unfold sgn
    (repeat split) <;> omega
theorem cmp_at {w : World} {a b : Option Addr} {n c m d : Nat} {xs ys : List UInt8} {i g h : Nat} {z : Int} (hz : Hid (sgn (xs.getD i 0).toNat (ys.getD i 0).toNat = z)) (hx : Bs w a n c xs) (hy : Bs w b m d ys) (hn : i < n) (hm : i < m)
    (hg : w.cell? ⟨g, 0, none⟩ = some (.slice a n c)) (hh : w.cell? ⟨h, 0, none⟩ = some (.slice b m d)) :
    Calls Try.prog 55 #[.int .i64 i, .pointer (some ⟨g, 0, none⟩), .pointer (some ⟨h, 0, none⟩)] w fun e w' =>
      e = .returned (.int .i64 z) ∧ ∃ k, w' = w.drewN k := by
  obtain ⟨b1, o1, hl1, rfl, _, hc1⟩ := hx.at_ hn
  obtain ⟨b2, o2, hl2, rfl, _, hc2⟩ := hy.at_ hm
  have e1 : xs.getD i 0 = xs[i] := by simp [hl1]
  have e2 : ys.getD i 0 = ys[i] := by simp [hl2]
  obtain rfl := hz.out
  clear hz
  rw [e1, e2]
  generalize xs[i] = x at *
  generalize ys[i] = y at *
  have h0 : (0 : Int) ≤ i := by omega
  have hn' : (i : Int) < n := by omega
  have hm' : (i : Int) < m := by omega
  clear e1 e2 hx hy hl1 hl2
  go_enter Try.func55, Try.ntmps55
  go_wp2
  go_quiet ((go_at_call 56; exact quiet_left (cmp_b _ _ _)))
  go_wp2
  go_ret
  exact ⟨rfl, _, rfl⟩
set_option maxHeartbeats 400000 in
theorem compare_any {w : World} {a b : Option Addr} {n c m d : Nat} {xs ys : List UInt8} (hx : Bs w a n c xs) (hy : Bs w b m d ys) :
    Calls Try.prog 41 #[.slice a n c, .slice b m d] w fun e w' => e = .returned (.int .i64 (lex xs ys)) ∧ Below w.heap.size w w' := by
  have hn : n ≤ 9223372036854775807 := by have := hx.2.1; have := hx.2.2.1; unfold maxLen at this; omega
  have hm : m ≤ 9223372036854775807 := by have := hy.2.1; have := hy.2.2.1; unfold maxLen at this; omega
  have hx2 : Bs ((w.alloc (Obj.cells #[Value.slice a n c] 22)).alloc (Obj.cells #[Value.slice b m d] 22)) a n c xs := (hx.alloc _).alloc _
  have hy2 : Bs ((w.alloc (Obj.cells #[Value.slice a n c] 22)).alloc (Obj.cells #[Value.slice b m d] 22)) b m d ys := (hy.alloc _).alloc _
  have hb0 : Below w.heap.size w ((w.alloc (Obj.cells #[Value.slice a n c] 22)).alloc (Obj.cells #[Value.slice b m d] 22)) :=
    ((Below.refl _ _).alloc (Nat.le_refl _) _).alloc (by simp) _
  have hg : Hid (∀ j, (((w.alloc (Obj.cells #[Value.slice a n c] 22)).alloc (Obj.cells #[Value.slice b m d] 22)).drewN j).cell? ⟨w.heap.size, 0, none⟩ = some (.slice a n c)) := fun j => by go_simp
  have hh : Hid (∀ j, (((w.alloc (Obj.cells #[Value.slice a n c] 22)).alloc (Obj.cells #[Value.slice b m d] 22)).drewN j).cell? ⟨w.heap.size + 1, 0, none⟩ = some (.slice b m d)) := fun j => by go_simp
  go_enter Try.func41, Try.ntmps41
  go_wp2
  all_goals
    go_loopw [14] (fun i wr => ∃ k j : Nat, k ≤ n ∧ k ≤ m ∧ i = .int .i64 k ∧ xs.take k = ys.take k ∧ wr = ((w.alloc (Obj.cells #[Value.slice a n c] 22)).alloc (Obj.cells #[Value.slice b m d] 22)).drewN j) (fun i _ => n + m - (intOf i).toNat)
    case atStart => exact ⟨0, 0, Nat.zero_le _, Nat.zero_le _, rfl, rfl, rfl⟩
    case round =>
      obtain ⟨k, j, hk1, hk2, rfl, ht, rfl⟩ := hrel
      have HT := Lib.hid ht
      clear ht
      by_cases hlt : k < n ∧ k < m
      · obtain ⟨h1, h2⟩ := hlt
        obtain ⟨z, hz⟩ : ∃ z, Hid (sgn (xs.getD k 0).toNat (ys.getD k 0).toNat = z) := ⟨_, rfl⟩
        by_cases hs : z = 0
        · have hs' : (z != 0) = false := by simp [hs]
          have HS := Lib.hid hs
          clear hs
          go_wp2_with (go_at_call 55; go_must (refine (cmp_at hz (hx2.drewN _) (hy2.drewN _) h1 h2 (hg.out _) (hh.out _)).mono ?_); rintro e w' ⟨rfl, q, rfl⟩)
          go_roundw
          case rel => exact ⟨k + 1, _, by omega, by omega, by go_num, take_step hz.out HS.out hx.len hy.len h1 h2 HT.out, rfl⟩
          case measure => simp [intOf]; omega
        · have hs' : (z != 0) = true := by simp [hs]
          clear hs
          go_wp2_with (go_at_call 55; go_must (refine (cmp_at hz (hx2.drewN _) (hy2.drewN _) h1 h2 (hg.out _) (hh.out _)).mono ?_); rintro e w' ⟨rfl, q, rfl⟩)
          go_wp2
          go_ret
          exact ⟨ret_int (lex_found hz.out hs' hx.len hy.len h1 h2 HT.out).symm, below_drewN hb0 _⟩
      · go_wp2_with (go_at_call 57; refine (cmp_i _ _ _).mono ?_; rintro e w' ⟨rfl, rfl⟩)
        all_goals
          go_ret
          exact ⟨ret_int (lex_done hx.len hy.len hk1 hk2 hlt HT.out).symm, below_drewN hb0 _⟩
end Go.Proofs.Ytkkomaohcijhnaa
namespace Go.Proofs.Ytkkomaohcijhnaa
open Go.RowKit
set_option maxHeartbeats 400000 in
theorem compare_lays {w : World} {a b : Option Addr} {n c m d : Nat} {xs ys : List UInt8} (hx : Bs w a n c xs) (hy : Bs w b m d ys) :
    Calls Try.prog 41 #[.slice a n c, .slice b m d] w fun e w' => e = .returned (.int .i64 (lex xs ys)) ∧ ∃ q os, w' = Sort.grow (w.drewN q) os := by
  have hn : n ≤ 9223372036854775807 := by have := hx.2.1; have := hx.2.2.1; unfold maxLen at this; omega
  have hm : m ≤ 9223372036854775807 := by have := hy.2.1; have := hy.2.2.1; unfold maxLen at this; omega
  have hx2 : Bs ((w.alloc (Obj.cells #[Value.slice a n c] 22)).alloc (Obj.cells #[Value.slice b m d] 22)) a n c xs := (hx.alloc _).alloc _
  have hy2 : Bs ((w.alloc (Obj.cells #[Value.slice a n c] 22)).alloc (Obj.cells #[Value.slice b m d] 22)) b m d ys := (hy.alloc _).alloc _
  have hb0 : Hid (∀ q, ∃ q' os, ((w.alloc (Obj.cells #[Value.slice a n c] 22)).alloc (Obj.cells #[Value.slice b m d] 22)).drewN q = Sort.grow (w.drewN q') os) := fun q => ⟨q, #[Obj.cells #[Value.slice a n c] 22, Obj.cells #[Value.slice b m d] 22], by rw [Sort.alloc_eq_grow, Sort.alloc_eq_grow, Sort.grow_grow]; rfl⟩
  have hg : Hid (∀ j, (((w.alloc (Obj.cells #[Value.slice a n c] 22)).alloc (Obj.cells #[Value.slice b m d] 22)).drewN j).cell? ⟨w.heap.size, 0, none⟩ = some (.slice a n c)) := fun j => by go_simp
  have hh : Hid (∀ j, (((w.alloc (Obj.cells #[Value.slice a n c] 22)).alloc (Obj.cells #[Value.slice b m d] 22)).drewN j).cell? ⟨w.heap.size + 1, 0, none⟩ = some (.slice b m d)) := fun j => by go_simp
  go_enter Try.func41, Try.ntmps41
  go_wp2
  all_goals
    go_loopw [14] (fun i wr => ∃ k j : Nat, k ≤ n ∧ k ≤ m ∧ i = .int .i64 k ∧ xs.take k = ys.take k ∧ wr = ((w.alloc (Obj.cells #[Value.slice a n c] 22)).alloc (Obj.cells #[Value.slice b m d] 22)).drewN j) (fun i _ => n + m - (intOf i).toNat)
    case atStart => exact ⟨0, 0, Nat.zero_le _, Nat.zero_le _, rfl, rfl, rfl⟩
    case round =>
      obtain ⟨k, j, hk1, hk2, rfl, ht, rfl⟩ := hrel
      have HT := Lib.hid ht
      clear ht
      by_cases hlt : k < n ∧ k < m
      · obtain ⟨h1, h2⟩ := hlt
        obtain ⟨z, hz⟩ : ∃ z, Hid (sgn (xs.getD k 0).toNat (ys.getD k 0).toNat = z) := ⟨_, rfl⟩
        by_cases hs : z = 0
        · have hs' : (z != 0) = false := by simp [hs]
          have HS := Lib.hid hs
          clear hs
          go_wp2_with (go_at_call 55; go_must (refine (cmp_at hz (hx2.drewN _) (hy2.drewN _) h1 h2 (hg.out _) (hh.out _)).mono ?_); rintro e w' ⟨rfl, q, rfl⟩)
          go_roundw
          case rel => exact ⟨k + 1, _, by omega, by omega, by go_num, take_step hz.out HS.out hx.len hy.len h1 h2 HT.out, rfl⟩
          case measure => simp [intOf]; omega
        · have hs' : (z != 0) = true := by simp [hs]
          clear hs
          go_wp2_with (go_at_call 55; go_must (refine (cmp_at hz (hx2.drewN _) (hy2.drewN _) h1 h2 (hg.out _) (hh.out _)).mono ?_); rintro e w' ⟨rfl, q, rfl⟩)
          go_wp2
          go_ret
          exact ⟨ret_int (lex_found hz.out hs' hx.len hy.len h1 h2 HT.out).symm, hb0.out _⟩
      · go_wp2_with (go_at_call 57; refine (cmp_i _ _ _).mono ?_; rintro e w' ⟨rfl, rfl⟩)
        all_goals
          go_ret
          exact ⟨ret_int (lex_done hx.len hy.len hk1 hk2 hlt HT.out).symm, hb0.out _⟩
theorem OwnS.v {w : World} {B : Nat} {e : TypeId} {a : Option Addr} {n c : Nat} {ss : List Sl} (h : OwnS w B e a n c ss) : OwnV w B e a n c (cellsS ss) := ⟨by unfold cellsS; rw [List.length_map]; exact h.1, h.2⟩
theorem OwnV.s {w : World} {B : Nat} {e : TypeId} {a : Option Addr} {n c : Nat} {ss : List Sl} (h : OwnV w B e a n c (cellsS ss)) : OwnS w B e a n c ss := ⟨by have := h.1; unfold cellsS at this; rwa [List.length_map] at this, h.2⟩
theorem info_bs : (Try.prog.info? 22).map (fun i => (i.zero, i.size, i.bytes)) = some (some (Value.slice none 0 0), 1, 24) := by kernel_rfl
set_option maxRecDepth 100000 in
set_option maxHeartbeats 4000000 in
theorem clone_rw {w : World} {a : Option Addr} {n c : Nat} {ss : List Sl} (h : Rw w a n c ss) (hn : n ≤ 1000000) :
    Calls Try.prog 42 #[.slice a n c] w fun e w' => ∃ a' c', e = .returned (.slice a' n c') ∧ OwnS w' w.heap.size 22 a' n c' ss ∧ Below w.heap.size w w' := by
  obtain ⟨i0, hi, hz0, hz1, hz2⟩ := info_partsE info_bs
  obtain ⟨⟨hl, hnc, hcm, hx⟩, _⟩ := h
  have q22 : ∀ (w : World) (a : Option Addr) (n c n' c' : Nat), (binOp .eql 41 (.slice a n c) (.slice none n' c')).run Try.prog w = .ok (.bool a.isNone) w := fun w a n c n' c' => Lib.run_eql_slice_nil w _ _ a n c n' c' Try.underlying41
  cases a with
  | none =>
    have hn0 : n = 0 := by
      rcases Nat.eq_zero_or_pos n with h | h
      · exact h
      · obtain ⟨b, off, e, _⟩ := hx h
        cases e
    clear hx
    subst hn0
    have hl0 : ss = [] := List.eq_nil_of_length_eq_zero hl
    subst hl0
    go_enter Try.func42, Try.ntmps42
    go_wp2
    go_ret
    exact ⟨none, 0, rfl, OwnS.nil_ _ _ _, Below.refl _ _⟩
  | some x =>
    have HL := Lib.hid hl
    have HX := Lib.hid hx
    clear hl hx
    go_enter Try.func42, Try.ntmps42
    go_wp2_with (at_builtin; refine wpList_append_own _ rfl _ _ 41 rfl w.heap.size 22 i0 (.slice none 0 0) 1 24 Try.underlying41 hi hz0 hz1 hz2 rfl (by decide) _ _ _ rfl (World.ownsRow_made w #[] 0 (Nat.le_refl _) (Nat.zero_le _) rfl) x n c (cellsS ss) rfl ?qc1 ?qc2 (cellsS_one ss) ?qc4 ?qc5 ?qc6 ?_)
    case qc1 => unfold cellsS; rw [List.length_map, HL.out]; simp
    case qc2 =>
      intro j u hj
      unfold cellsS at hj
      rw [List.getElem?_map, Option.map_eq_some_iff] at hj
      obtain ⟨y, hy, rfl⟩ := hj
      obtain ⟨hj', rfl⟩ := List.getElem?_eq_some_iff.1 hy
      obtain ⟨b, off, e, hb, hc⟩ := HX.out (by have := HL.out; omega)
      injection e with e
      subst e
      have hp : (⟨b, off, none⟩ : Addr).add j = ⟨b, off + j, none⟩ := by unfold Addr.add; split <;> simp_all
      rw [hp, World.cell?_alloc_lt w _ ⟨b, off + j, none⟩ hb]
      exact hc j hj'
    case qc4 => unfold maxLen; omega
    case qc5 => omega
    case qc6 => simp
    intro v' w1 hown hgrow hnil
    go_wp2
    go_ret
    obtain ⟨a', c', rfl, ho⟩ := OwnV.form (vs := cellsS ss) (n := n) (by simpa using hown) (by unfold cellsS; rw [List.length_map]; exact HL.out)
    exact ⟨a', c', rfl, ho.s, ((Below.refl _ w).alloc (Nat.le_refl _) _).grown hgrow (by simp) (by intro k hk; simp [Value.ownBlock] at hk; omega)⟩
def partAt (ss : List Sl) (i : Nat) : Sl := ss.getD i ⟨none, 0, 0, []⟩
def encI (ss : List Sl) (i : Nat) : Value := (partAt ss i).v
def cmpI_ (ss : List Sl) (i j : Nat) : Int := lex (partAt ss i).l (partAt ss j).l
theorem oneI (ss : List Sl) : OneCell (encI ss) := fun _ => rfl
theorem ltI (ss : List Sl) (i j : Nat) : ltOf (cmpI_ ss) i j = true ↔ lex (partAt ss i).l (partAt ss j).l = -1 := by
  have := lex_bd (partAt ss i).l (partAt ss j).l
  unfold ltOf cmpI_
  rw [decide_eq_true_iff]
  omega
theorem ltI' (ss : List Sl) (i j : Nat) : ltOf (cmpI_ ss) i j = false ↔ lex (partAt ss j).l (partAt ss i).l ≤ 0 := by
  have := lex_anti (partAt ss i).l (partAt ss j).l
  unfold ltOf cmpI_
  rw [decide_eq_false_iff_not]
  omega
theorem swoI (ss : List Sl) : Sort.SWO (ltOf (cmpI_ ss)) where
  irrefl x := by rw [ltI', lex_self]; exact Int.le_refl _
  trans x y z h1 h2 := by rw [ltI] at *; exact lex_lt_trans h1 h2
  ntrans x y z h1 h2 := by rw [ltI'] at *; exact lex_trans _ _ _ h2 h1
def LowP (w : World) (B : Nat) (s : Sl) : Prop := Bs w s.a s.n s.c s.l ∧ (0 < s.n → ∀ x, s.a = some x → x.block < B)
theorem LowP.below {w w' : World} {B : Nat} {s : Sl} (h : LowP w B s) (hb : Below B w w') : LowP w' B s := by
  refine ⟨?_, h.2⟩
  obtain ⟨h1, h2, h3, h4⟩ := h.1
  refine ⟨h1, h2, h3, fun hn => ?_⟩
  obtain ⟨b, off, e, hlt, hc⟩ := h4 hn
  have hB : b < B := h.2 hn _ e
  exact ⟨b, off, e, Nat.lt_of_lt_of_le hlt hb.size, fun i hi => (hb.cell (p := ⟨b, off + i, none⟩) hB).trans (hc i hi)⟩
theorem lowP_nil (w : World) (B : Nat) : LowP w B ⟨none, 0, 0, []⟩ := ⟨Bs.nil_ w, fun h => absurd h (Nat.lt_irrefl 0)⟩
theorem lowP_at {w : World} {B : Nat} {ss : List Sl} (h : ∀ s ∈ ss, LowP w B s) (i : Nat) : LowP w B (partAt ss i) := by
  unfold partAt
  rw [List.getD_eq_getElem?_getD]
  rcases Nat.lt_or_ge i ss.length with hi | hi
  · rw [List.getElem?_eq_getElem hi]
    exact h _ (List.getElem_mem hi)
  · rw [List.getElem?_eq_none hi]
    exact lowP_nil w B
theorem sw_below {enc : Nat → Value} {w : World} {B g m : Nat} {dk : Array Nat} {os : Array Obj} (hB : B ≤ g) (hg : g < w.heap.size) : Below B w (sortWorld enc w g 0 m dk os) := by
  refine ⟨rfl, rfl, rfl, ?_, fun k hk => ?_⟩
  · unfold sortWorld
    rw [Sort.size_grow, Sort.size_putRow]
    exact Nat.le_add_right _ _
  · unfold sortWorld
    rw [Sort.heap_grow_old _ _ (by rw [Sort.size_putRow]; show k < w.heap.size; omega)]
    show (Array.modify w.heap g _)[k]? = _
    rw [Array.getElem?_modify, if_neg (by omega)]
theorem sw_own {enc : Nat → Value} {w : World} {B g n c m : Nat} {e : TypeId} {vs : List Value} {dk : Array Nat} {os : Array Obj} (ho : OwnV w B e (some ⟨g, 0, none⟩) n c vs) (hd : dk.size = n) : OwnV (sortWorld enc w g 0 m dk os) B e (some ⟨g, 0, none⟩) n c (dk.toList.map enc) := by
  have hg := (ho.base _ rfl).2
  dsimp only at hg
  obtain ⟨hl, h1, h2⟩ := ho
  refine ⟨by rw [List.length_map, Array.length_toList]; exact hd, by rw [List.length_map, Array.length_toList, hd, Nat.mul_one], ?_⟩
  rcases h2 with ⟨hv, _⟩ | ⟨g', cap, cur, hv, hB, hh, hnc, hm, hs, ht⟩
  · cases hv
  · injection hv with e1 e2 e3
    injection e1 with e1
    injection e1 with e1
    subst e1; subst e3
    refine .inr ⟨g, c, Sort.putCells enc 0 dk cur, rfl, hB, ?_, hnc, hm, ?_, ?_⟩
    · unfold sortWorld
      rw [Sort.heap_grow_old _ _ (by rw [Sort.size_putRow]; exact hg)]
      show (Array.modify w.heap g _)[g]? = _
      rw [Array.getElem?_modify, if_pos rfl, hh]
      rfl
    · unfold Sort.putCells
      rw [Array.size_mapIdx]
      exact hs
    · apply List.ext_getElem?
      intro k
      rw [List.getElem?_take]
      rcases Nat.lt_or_ge k n with hk | hk
      · rw [if_pos (by omega), Array.getElem?_toList, List.getElem?_map, Array.getElem?_toList]
        unfold Sort.putCells
        rw [Array.getElem?_mapIdx, Array.getElem?_eq_getElem (show k < cur.size by omega), Array.getElem?_eq_getElem (show k < dk.size by omega)]
        simp only [Option.map_some]
        rw [if_pos ⟨Nat.zero_le _, by omega⟩, Nat.sub_zero, getElem!_pos dk k (by omega)]
      · rw [if_neg (by omega), List.getElem?_eq_none (by rw [List.length_map, Array.length_toList]; omega)]
theorem parts_all (ss : List Sl) : (List.range ss.length).map (partAt ss) = ss := by
  apply List.ext_getElem
  · simp
  · intro i h1 h2
    rw [List.getElem_map, List.getElem_range]
    unfold partAt
    rw [List.getD_eq_getElem?_getD, List.getElem?_eq_getElem h2]
    rfl
set_option maxHeartbeats 4000000 in
theorem sort_rw {w : World} {B : Nat} {a : Option Addr} {n c : Nat} {ss : List Sl} (ho : OwnS w B 22 a n c ss) (hb : ∀ s ∈ ss, LowP w B s) (hn : n ≤ 1000000) :
    Calls Try.prog 43 #[.slice a n c, .func (.func 41) #[] #[]] w fun e w' => e = .returned (.tuple #[]) ∧ ∃ ss', ss'.Perm ss ∧ (∀ i j (h1 : i < j) (h2 : j < ss'.length), lex ss'[i].l ss'[j].l ≤ 0) ∧ OwnS w' B 22 a n c ss' ∧ Below B w w' := by
  rcases Nat.eq_zero_or_pos n with h0 | h0
  · subst h0
    have hs0 : ss = [] := List.eq_nil_of_length_eq_zero ho.1
    subst hs0
    refine (Try.slices_SortFunc_none a c _ w).mono ?_
    rintro e w' ⟨he, rfl⟩
    exact ⟨he, [], List.Perm.refl _, fun i j h1 h2 => absurd h2 (by simp), ho, Below.refl _ _⟩
  · obtain ⟨g, rfl, hBg, hgz⟩ : ∃ g, a = some ⟨g, 0, none⟩ ∧ B ≤ g ∧ g < w.heap.size := by
      rcases ho.2.2 with ⟨hv, hz⟩ | ⟨g, cap, cur, hv, hB, hh, _⟩
      · omega
      · injection hv with e1 e2 e3
        refine ⟨g, e1, hB, ?_⟩
        have := (ho.base _ e1).2
        exact this
    have hl := ho.1
    have hds : (List.range n).toArray.size = n := by simp
    have hH : Sort.Holds (encI ss) w g 0 (List.range n).toArray := fun j hj => by
      have hj' : j < n := by rw [hds] at hj; exact hj
      have hc := ho.v.cell (j := j) (by rw [ho.v.1]; exact hj')
      refine ⟨?_, by rw [Nat.zero_add]; exact ho.v.frozen j⟩
      rw [Nat.zero_add, hc, getElem!_pos _ j hj]
      unfold encI partAt cellsS
      simp only [List.getElem_map, List.getElem_toArray, List.getElem_range]
      rw [List.getD_eq_getElem?_getD, List.getElem?_eq_getElem (show j < ss.length by omega)]
      rfl
    have hcmp : CmpLays1 Try.prog 41 #[] (encI ss) (cmpI_ ss) g 0 (List.range n).toArray.size w := fun m os dk hs x y => by
      have hq : Below B w (sortWorld (encI ss) w g 0 m dk os) := sw_below hBg hgz
      exact compare_lays ((lowP_at hb x).below hq).1 ((lowP_at hb y).below hq).1
    have h := Try.slices_SortFunc (encI ss) (oneI ss) (cmpI_ ss) (swoI ss) 41 #[] g 0 c (List.range n).toArray w (enters_of Try.func41 (by kernel_rfl) rfl) hcmp hH hgz (by rw [hds]; omega)
    rw [hds] at h
    refine h.mono ?_
    rintro e w' ⟨he, d', q, os, hp, hs, rfl⟩
    have hsz : d'.size = n := by rw [hp.1, hds]
    refine ⟨he, d'.toList.map (partAt ss), ?_, ?_, ?_, sw_below hBg hgz⟩
    · have hpp := hp.2.2
      have e1 : (d'.extract 0 n).toList = d'.toList := by rw [Array.extract_eq_self_of_le (by omega)]
      have e2 : ((List.range n).toArray.extract 0 n).toList = List.range n := by rw [Array.extract_eq_self_of_le (by rw [hds]; exact Nat.le_refl _)]
      rw [e1, e2] at hpp
      have := hpp.map (partAt ss)
      rw [← hl, parts_all] at this
      exact this
    · intro i j h1 h2
      have h2' : j < n := by simpa [hsz] using h2
      have := (ltI' ss _ _).1 (hs i j (Nat.zero_le _) h1 h2')
      rw [getElem!_pos d' i (by omega), getElem!_pos d' j (by omega)] at this
      simpa using this
    · have := sw_own (enc := encI ss) (m := q) (os := os) ho.v hsz
      refine OwnV.s ?_
      unfold cellsS
      rw [List.map_map]
      exact this
end Go.Proofs.Ytkkomaohcijhnaa
namespace Go.Proofs.Ytkkomaohcijhnaa
open Go.RowKit
def Cpt (S : List Sl) (k : Nat) (R : List Sl) : Prop := asc (lsOf R) ∧ (∀ x, x ∈ lsOf R ↔ x ∈ lsOf (S.take k)) ∧ ∀ s ∈ R, s ∈ S
def Srtd (S : List Sl) : Prop := ∀ i j (_ : i < j) (h2 : j < S.length), lex (S[i]'(by omega)).l S[j].l ≤ 0
theorem Cpt.one {S : List Sl} (h : 0 < S.length) : Cpt S 1 (S.take 1) := by
  refine ⟨?_, fun x => Iff.rfl, fun s hs => List.mem_of_mem_take hs⟩
  cases S with
  | nil => exact absurd h (by simp)
  | cons s r => exact List.pairwise_singleton _ _
theorem lsOf_app (A B : List Sl) : lsOf (A ++ B) = lsOf A ++ lsOf B := List.map_append
theorem Cpt.keep {S : List Sl} {k : Nat} {R : List Sl} (h : Cpt S k R) (hs : Srtd S) (hk : 1 ≤ k) (hl : k < S.length) (hne : lex (S[k - 1]'(by omega)).l S[k].l ≠ 0) : Cpt S (k + 1) (R ++ [S[k]]) := by
  obtain ⟨h1, h2, h3⟩ := h
  have hlt : lex (S[k - 1]'(by omega)).l S[k].l = -1 := by
    have := hs (k - 1) k (by omega) hl
    have := lex_bd (S[k - 1]'(by omega)).l S[k].l
    omega
  refine ⟨?_, ?_, ?_⟩
  · unfold asc
    rw [lsOf_app, List.pairwise_append]
    refine ⟨h1, List.pairwise_singleton _ _, fun y hy z hz => ?_⟩
    simp only [lsOf, List.map_cons, List.map_nil, List.mem_singleton] at hz
    subst hz
    have hy2 := (h2 y).1 hy
    unfold lsOf at hy2
    obtain ⟨s, hs1, rfl⟩ := List.mem_map.1 hy2
    obtain ⟨j, hj, rfl⟩ := List.getElem_of_mem hs1
    rw [List.length_take] at hj
    rw [List.getElem_take]
    rcases Nat.lt_or_ge j (k - 1) with hj2 | hj2
    · exact lex_le_lt (hs j (k - 1) hj2 (by omega)) hlt
    · have : j = k - 1 := by omega
      subst this
      exact hlt
  · intro x
    rw [lsOf_app, List.mem_append, h2, List.take_succ_eq_append_getElem hl, lsOf_app, List.mem_append]
  · intro s hs1
    rcases List.mem_append.1 hs1 with h | h
    · exact h3 s h
    · rw [List.mem_singleton] at h
      subst h
      exact List.getElem_mem hl
theorem Cpt.skip {S : List Sl} {k : Nat} {R : List Sl} (h : Cpt S k R) (hk : 1 ≤ k) (hl : k < S.length) (he : lex (S[k - 1]'(by omega)).l S[k].l = 0) : Cpt S (k + 1) R := by
  obtain ⟨h1, h2, h3⟩ := h
  refine ⟨h1, fun x => ?_, h3⟩
  rw [h2, List.take_succ_eq_append_getElem hl, lsOf_app, List.mem_append]
  constructor
  · exact .inl
  · rintro (h | h)
    · exact h
    · simp only [lsOf, List.map_cons, List.map_nil, List.mem_singleton] at h
      rw [h, ← (lex_zero _ _).1 he]
      unfold lsOf
      exact List.mem_map.2 ⟨S[k - 1]'(by omega), List.mem_take_iff_getElem.2 ⟨k - 1, by omega, rfl⟩, rfl⟩
theorem row_set {S R : List Sl} (x : Sl) (h : R.length < S.length) : (cellsS (R ++ S.drop R.length)).set R.length x.v = cellsS ((R ++ [x]) ++ S.drop (R ++ [x]).length) := by
  unfold cellsS
  rw [← List.map_set, List.set_append_right _ _ (Nat.le_refl _), Nat.sub_self, List.drop_eq_getElem_cons h, List.set_cons_zero, List.append_assoc, List.length_append]
  rfl
theorem row_at {S R : List Sl} {j : Nat} (h : R.length ≤ j) (hj : j < S.length) : (cellsS (R ++ S.drop R.length))[j]? = some (S[j]).v := by
  unfold cellsS
  rw [List.getElem?_map, List.getElem?_append_right h, List.getElem?_drop, show R.length + (j - R.length) = j by omega, List.getElem?_eq_getElem hj]
  rfl
theorem row_len {S R : List Sl} {n : Nat} (h : R.length ≤ n) (hl : S.length = n) : (cellsS (R ++ S.drop R.length)).length = n := by
  unfold cellsS
  rw [List.length_map, List.length_append, List.length_drop]
  omega
theorem OwnV.take_ {w : World} {B : Nat} {e : TypeId} {g n c : Nat} {vs : List Value} (h : OwnV w B e (some ⟨g, 0, none⟩) n c vs) {m : Nat} (hm : m ≤ n) : OwnV w B e (some ⟨g, 0, none⟩) m c (vs.take m) := by
  obtain ⟨hl, h1, h2⟩ := h
  refine ⟨by rw [List.length_take]; omega, by rw [List.length_take]; omega, ?_⟩
  rcases h2 with ⟨hv, _⟩ | ⟨g', cap, cur, hv, hB, hh, hnc, hmm, hs, ht⟩
  · cases hv
  · injection hv with e1 e2 e3
    injection e1 with e1
    injection e1 with e1
    subst e1; subst e3
    refine .inr ⟨g, c, cur, rfl, hB, hh, by omega, hmm, hs, ?_⟩
    rw [← ht, List.take_take, Nat.mul_one, Nat.mul_one, Nat.min_eq_left hm]
theorem OwnV.storedAll {B : Nat} {e : TypeId} {g n c : Nat} : ∀ (us : List Value) (w : World) (vs : List Value) (j : Nat), OwnV w B e (some ⟨g, 0, none⟩) n c vs → ∃ ws, OwnV (w.setCells g j us) B e (some ⟨g, 0, none⟩) n c ws ∧ ws.take j = vs.take j
  | [], w, vs, j, h => ⟨vs, h, rfl⟩
  | u :: us, w, vs, j, h => by
    obtain ⟨ws, h1, h2⟩ := OwnV.storedAll us (w.setCell ⟨g, j, none⟩ u) (vs.set j u) (j + 1) (h.stored j u)
    refine ⟨ws, h1, ?_⟩
    have := congrArg (List.take j) h2
    rw [List.take_take, List.take_take, Nat.min_eq_left (Nat.le_succ j), List.take_set_of_le (Nat.le_refl j)] at this
    exact this
theorem belowSs {A g : Nat} {w0 : World} (n : A ≤ g) : ∀ (us : List Value) (w : World) (j : Nat), Below A w0 w → Below A w0 (w.setCells g j us)
  | [], _, _, h => h
  | u :: us, w, j, h => belowSs n us (w.setCell ⟨g, j, none⟩ u) (j + 1) (h.setCell (p := ⟨g, j, none⟩) n u)
set_option maxRecDepth 100000 in
set_option maxHeartbeats 1000000 in
theorem same_any {w : World} {a b : Option Addr} {n c m d : Nat} {xs ys : List UInt8} (hx : Bs w a n c xs) (hy : Bs w b m d ys) :
    Calls Try.prog 40 #[.slice a n c, .slice b m d] w fun e w' => e = .returned (.bool (lex xs ys == 0)) ∧ Below w.heap.size w w' := by
  have H := Lib.hid (compare_any hx hy)
  clear hx hy
  generalize lex xs ys = z at *
  go_enter Try.func40, Try.ntmps40
  go_wp2_with fail
  with_reducible refine H.out.mono ?_
  rintro e w3 ⟨rfl, q⟩
  have Q := Lib.hid q
  clear q
  go_wp2_with fail
  go_ret
  exact ⟨rfl, Q.out⟩
set_option maxRecDepth 100000 in
set_option maxHeartbeats 16000000 in
theorem compact_rw {w : World} {B : Nat} {a : Option Addr} {n c : Nat} {S : List Sl} (ho : OwnS w B 22 a n c S) (hb : ∀ s ∈ S, LowP w B s) (hs : Srtd S) (hn : n ≤ 1000000) :
    Calls Try.prog 44 #[.slice a n c, .func (.func 40) #[] #[]] w fun e w' => ∃ R, e = .returned (.slice a R.length c) ∧ OwnS w' B 22 a R.length c R ∧ Cpt S S.length R ∧ Below B w w' := by
  have HL := Lib.hid ho.1
  by_cases h2 : n < 2
  · have HO := Lib.hid ho
    have h2' : (n : Int) < 2 := by omega
    have hC : Cpt S S.length S := by
      rcases Nat.eq_zero_or_pos S.length with h | h
      · have := List.eq_nil_of_length_eq_zero h
        subst this
        exact ⟨List.Pairwise.nil, fun x => Iff.rfl, fun s h => h⟩
      · have h1 : S.length = 1 := by have := HL.out; omega
        have := Cpt.one h
        rw [h1]
        rwa [List.take_of_length_le (by omega)] at this
    have HC := Lib.hid hC
    clear hC hb hs ho
    go_enter Try.func44, Try.ntmps44
    go_wp2_with fail
    go_ret
    exact ⟨S, by rw [HL.out]; rfl, by rw [HL.out]; exact HO.out, HC.out, Below.refl _ _⟩
  · obtain ⟨g, rfl, hBg, hgz⟩ : ∃ g, a = some ⟨g, 0, none⟩ ∧ B ≤ g ∧ g < w.heap.size := by
      rcases ho.2.2 with ⟨hv, hz⟩ | ⟨g, cap, cur, hv, hB, hh, _⟩
      · omega
      · injection hv with e1 e2 e3
        refine ⟨g, e1, hB, ?_⟩
        have := (ho.base _ e1).2
        exact this
    have hcap := ho.v.cap
    have hnc := hcap.1
    have hcm : c ≤ 9223372036854775807 := by have := hcap.2; unfold maxLen at this; omega
    have HO := Lib.hid ho
    have HB := Lib.hid hb
    have HS := Lib.hid hs
    have h2' : ¬ (n : Int) < 2 := by omega
    have hn0 : (n : Int) ≤ 1000000 := by omega
    clear ho hb hs hcap
    go_enter Try.func44, Try.ntmps44
    go_wp2_with fail
    go_loopg [5] n (fun gh i wr => ∃ k : Nat, 1 ≤ k ∧ k ≤ n ∧ n - k ≤ gh ∧ i = .int .i64 k ∧ OwnS wr B 22 (some ⟨g, 0, none⟩) n c S ∧ Cpt S k (S.take k) ∧ Below B w wr ∧ w.heap.size ≤ wr.heap.size)
    case atStart => exact ⟨1, Nat.le_refl _, by omega, by omega, rfl, HO.out, Cpt.one (by have := HL.out; omega), Below.refl _ _, Nat.le_refl _⟩
    case round =>
      obtain ⟨k, hk1, hk, hgh, rfl, ho, hc, hq, hz⟩ := hrel
      have O4 := Lib.hid ho
      have C4 := Lib.hid hc
      have Q4 := Lib.hid hq
      clear ho hc hq
      by_cases hlt : k < n
      · have hlt2 : (k : Int) < n := by omega
        have hkS : k < S.length := by have := HL.out; omega
        obtain ⟨j, hj⟩ : ∃ j, k - 1 = j := ⟨_, rfl⟩
        have hx := (HB.out _ (List.getElem_mem hkS)).below Q4.out
        have hy := (HB.out _ (List.getElem_mem (show j < S.length by omega))).below Q4.out
        have c1 := O4.out.v.cell (j := k) (by unfold cellsS; rw [List.length_map]; exact hkS)
        have c2 := O4.out.v.cell (j := j) (by unfold cellsS; rw [List.length_map]; omega)
        unfold cellsS at c1 c2
        rw [List.getElem_map] at c1 c2
        have KP := Lib.hid (Cpt.keep C4.out HS.out hk1 hkS)
        have SK := Lib.hid (Cpt.skip C4.out hk1 hkS)
        rw [← List.take_succ_eq_append_getElem hkS] at KP
        simp only [hj] at KP SK
        generalize S[k] = x at *
        generalize S[j] = y at *
        obtain ⟨xa, xn, xc, xl⟩ := x
        obtain ⟨ya, yn, yc, yl⟩ := y
        have HC := Lib.hid (same_any hx.1.drew hy.1.drew)
        have HA := Lib.hid (lex_anti xl yl)
        have hgr : g < wr.drew.heap.size := (by omega : g < wr.heap.size)
        have hBz : B ≤ wr.drew.heap.size := (by omega : B ≤ wr.heap.size)
        have s1 : IntKind.i64.wrap ((k : Int) - 1) = j := by rw [IntKind.wrap_i64]; omega
        have s7 : IntKind.i64.wrap (j : Int) = j := by rw [IntKind.wrap_i64]; omega
        have s2 : (k : Int) - 1 = j := by omega
        have s5 : (0 : Int) ≤ k := by omega
        have s6 : (g : Int) = g := rfl
        have HJ := Lib.hid hj
        clear hj s6
        have s3 : (0 : Int) ≤ j := by omega
        have s4 : (j : Int) < n := by omega
        unfold Sl.v at c1 c2
        dsimp only at c1 c2 HC KP SK
        clear hx hy
        generalize lex xl yl = z at *
        rcases hz0 : (z == 0) with _ | _
        · rw [hz0] at HC
          have hne : ¬ lex yl xl = 0 := by have := HA.out; have := beq_eq_false_iff_ne.1 hz0; omega
          have KP2 := Lib.hid (KP.out hne)
          clear hz0 KP SK HA
          go_wp2_with fail
          go_region_held3 (fun w' => w'.cell? ⟨g, k, none⟩ = some (.slice xa xn xc) ∧ w'.cell? ⟨g, j, none⟩ = some (.slice ya yn yc)) (first | exact ⟨c1, c2⟩ | exact ⟨d1, d2⟩ | assumption)
            ((go_at_call 40; (with_reducible refine HC.out.mono ?_); rintro e w5 ⟨rfl, q⟩; have Q5 := Lib.hid q; have d1 := (q.cell (p := ⟨g, k, none⟩) hgr).trans c1; have d2 := (q.cell (p := ⟨g, j, none⟩) hgr).trans c2; clear q))
          have O5 := Lib.hid ((O4.out.drewN 1).below Q5.out)
          have R5 := Lib.hid (Q4.out.drew.trans (Q5.out.mono hBz))
          have hz5 : w.heap.size ≤ w5.heap.size := Nat.le_trans hz Q5.out.size
          clear Q5 d1 d2 c1 c2 O4 Q4 HC
          go_wp2_with fail
          go_roundg (n - (k + 1))
          case measure => omega
          case rel => exact ⟨k + 1, by omega, by omega, Nat.le_refl _, by go_num, O5.out, KP2.out, R5.out, hz5⟩
        · rw [hz0] at HC
          have hze : lex yl xl = 0 := by have := HA.out; have := beq_iff_eq.1 hz0; omega
          have SK2 := Lib.hid (SK.out hze)
          clear hz0 KP SK HA
          go_wp2_with fail
          go_region_held3 (fun w' => w'.cell? ⟨g, k, none⟩ = some (.slice xa xn xc) ∧ w'.cell? ⟨g, j, none⟩ = some (.slice ya yn yc)) (first | exact ⟨c1, c2⟩ | exact ⟨d1, d2⟩ | assumption)
            ((go_at_call 40; (with_reducible refine HC.out.mono ?_); rintro e w5 ⟨rfl, q⟩; have Q5 := Lib.hid q; have d1 := (q.cell (p := ⟨g, k, none⟩) hgr).trans c1; have d2 := (q.cell (p := ⟨g, j, none⟩) hgr).trans c2; clear q))
          have O5 := Lib.hid ((O4.out.drewN 1).below Q5.out)
          have R5 := Lib.hid (Q4.out.drew.trans (Q5.out.mono hBz))
          have hz5 : w.heap.size ≤ w5.heap.size := Nat.le_trans hz Q5.out.size
          clear Q5 d1 d2 c1 c2 O4 Q4 HC
          have kc : ¬ c = k := by omega
          have kc2 : (k : Int) ≤ n := by omega
          have kc3 : (n : Int) ≤ c := by omega
          go_wp2_with fail
          clear hlt2 s1 s7 s2 s3 s4 s5 kc kc2 hgr hBz
          go_loopg [5, 7] n (fun gh i k2 wr => ∃ (R : List Sl) (q : Nat), 1 ≤ q ∧ k + q ≤ n ∧ n - (k + q) ≤ gh ∧ i = .int .i64 R.length ∧ k2 = .int .i64 q ∧ R.length + 1 ≤ k + q ∧ OwnV wr B 22 (some ⟨g, 0, none⟩) n c (cellsS (R ++ S.drop R.length)) ∧ Cpt S (k + q) R ∧ Below B w wr ∧ w.heap.size ≤ wr.heap.size)
          case atStart =>
            have el : (S.take k).length = k := by rw [List.length_take]; omega
            exact ⟨S.take k, 1, Nat.le_refl _, by omega, by omega, by rw [el], rfl, by rw [el]; exact Nat.le_refl _, by rw [el, List.take_append_drop]; exact O5.out.v, SK2.out, R5.out, hz5⟩
          case round =>
            obtain ⟨R, q, hq1, hkq, hgh2, rfl, rfl, hRl, ho, hc, hq, hz6⟩ := hrel
            have O6 := Lib.hid ho
            have C6 := Lib.hid hc
            have Q6 := Lib.hid hq
            clear ho hc hq O5 SK2 R5 C4 HJ
            by_cases hlt3 : k + q < n
            · have hkS2 : k + q < S.length := by have := HL.out; omega
              have hx := (HB.out _ (List.getElem_mem hkS2)).below Q6.out
              have hy := (HB.out _ (List.getElem_mem (show k + q - 1 < S.length by omega))).below Q6.out
              have rl := row_len (S := S) (R := R) (n := n) (by omega) HL.out
              have c1 := O6.out.cell (j := k + q) (by rw [rl]; exact hlt3)
              have c2 := O6.out.cell (j := k + q - 1) (by rw [rl]; omega)
              have c1' := row_at (S := S) (R := R) (j := k + q) (by omega) hkS2
              have c2' := row_at (S := S) (R := R) (j := k + q - 1) (by omega) (by omega)
              rw [List.getElem?_eq_getElem (by rw [rl]; exact hlt3)] at c1'
              rw [List.getElem?_eq_getElem (by rw [rl]; omega)] at c2'
              injection c1' with c1'
              injection c2' with c2'
              rw [c1'] at c1
              rw [c2'] at c2
              have KP := Lib.hid (Cpt.keep C6.out HS.out (by omega) hkS2)
              have SK := Lib.hid (Cpt.skip C6.out (by omega) hkS2)
              clear c1' c2' rl
              obtain ⟨j, hj⟩ : ∃ j, q - 1 = j := ⟨_, rfl⟩
              have hkj : k + q - 1 = k + j := by omega
              simp only [hkj] at KP SK hy c2
              generalize S[k + q] = x at *
              generalize S[k + j] = y at *
              obtain ⟨xa, xn, xc, xl⟩ := x
              obtain ⟨ya, yn, yc, yl⟩ := y
              have HC := Lib.hid (same_any hx.1.drew hy.1.drew)
              have HA := Lib.hid (lex_anti xl yl)
              have hgr : g < wr.drew.heap.size := (by omega : g < wr.heap.size)
              have hBz : B ≤ wr.drew.heap.size := (by omega : B ≤ wr.heap.size)
              have s1 : IntKind.i64.wrap ((q : Int) - 1) = j := by rw [IntKind.wrap_i64]; omega
              have s7 : IntKind.i64.wrap (j : Int) = j := by rw [IntKind.wrap_i64]; omega
              have s2 : (q : Int) - 1 = j := by omega
              have s5 : (0 : Int) ≤ q := by omega
              have s3 : (0 : Int) ≤ j := by omega
              have s4 : (j : Int) < ((n - k : Nat) : Int) := by omega
              have s6 : (q : Int) < ((n - k : Nat) : Int) := by omega
              have s8 : (j : Int) < (n : Int) - k := by omega
              have s9 : (q : Int) < (n : Int) - k := by omega
              have HKJ := Lib.hid (And.intro hj hkj)
              clear hj hkj
              unfold Sl.v at c1 c2
              dsimp only at c1 c2 HC KP SK
              clear hx hy
              generalize lex xl yl = z at *
              rcases hz0 : (z == 0) with _ | _
              · rw [hz0] at HC
                have hne : ¬ lex yl xl = 0 := by have := HA.out; have := beq_eq_false_iff_ne.1 hz0; omega
                have KP2 := Lib.hid (KP.out hne)
                clear hz0 KP SK HA
                go_wp2_with fail
                go_region_held3 (fun w' => w'.cell? ⟨g, k + q, none⟩ = some (.slice xa xn xc) ∧ w'.cell? ⟨g, k + j, none⟩ = some (.slice ya yn yc)) (first | exact ⟨c1, c2⟩ | exact ⟨d1, d2⟩ | assumption)
                  ((go_at_call 40; (with_reducible refine HC.out.mono ?_); rintro e w6 ⟨rfl, qq⟩; have Q7 := Lib.hid qq; have d1 := (qq.cell (p := ⟨g, k + q, none⟩) hgr).trans c1; have d2 := (qq.cell (p := ⟨g, k + j, none⟩) hgr).trans c2; clear qq))
                have O7 := Lib.hid ((O6.out.drewN 1).below Q7.out)
                have R7 := Lib.hid (Q6.out.drew.trans (Q7.out.mono hBz))
                have hz7 : w.heap.size ≤ w6.heap.size := Nat.le_trans hz6 Q7.out.size
                clear Q7 d2 c1 c2 O6 Q6 HC
                obtain ⟨m, hm⟩ : ∃ m, R.length = m := ⟨_, rfl⟩
                have hfr := O7.out.frozen m
                have O8 := Lib.hid (O7.out.stored m (.slice xa xn xc))
                have hrs := row_set (S := S) (R := R) ⟨xa, xn, xc, xl⟩ (by omega)
                rw [hm] at hrs
                have HRS := Lib.hid hrs
                have R8 := Lib.hid (belowS R7.out hBg m (.slice xa xn xc))
                have hcl0 := O7.out.cell (j := m) (by rw [row_len (n := n) (by omega) HL.out]; omega)
                obtain ⟨u, hu⟩ : ∃ u, (cellsS (R ++ S.drop R.length))[m]'(by rw [row_len (n := n) (by omega) HL.out]; omega) = u := ⟨_, rfl⟩
                rw [hu] at hcl0
                have t1 : (0 : Int) ≤ m := by omega
                have t2 : (m : Int) < n := by omega
                have hz8 : w.heap.size ≤ (w6.setCell ⟨g, m, none⟩ (.slice xa xn xc)).heap.size := by rw [size_set]; exact hz7
                have HM := Lib.hid hm
                clear hu hrs
                rw [hm]
                rw [hm] at hRl
                clear hm
                go_wp2_with fail
                go_roundg (n - (k + (q + 1)))
                case measure => omega
                case rel =>
                  refine ⟨R ++ [⟨xa, xn, xc, xl⟩], q + 1, by omega, by omega, Nat.le_refl _, ?_, by go_num, ?_, ?_, KP2.out, R8.out, hz8⟩
                  · rw [List.length_append, HM.out]; go_num
                  · rw [List.length_append, HM.out]; simp only [List.length_singleton]; omega
                  · rw [← HRS.out]
                    have := O8.out
                    rw [HM.out] at this
                    exact this
              · rw [hz0] at HC
                have hze : lex yl xl = 0 := by have := HA.out; have := beq_iff_eq.1 hz0; omega
                have SK2 := Lib.hid (SK.out hze)
                clear hz0 KP SK HA
                go_wp2_with fail
                go_region_held3 (fun w' => w'.cell? ⟨g, k + q, none⟩ = some (.slice xa xn xc) ∧ w'.cell? ⟨g, k + j, none⟩ = some (.slice ya yn yc)) (first | exact ⟨c1, c2⟩ | exact ⟨d1, d2⟩ | assumption)
                  ((go_at_call 40; (with_reducible refine HC.out.mono ?_); rintro e w6 ⟨rfl, qq⟩; have Q7 := Lib.hid qq; have d1 := (qq.cell (p := ⟨g, k + q, none⟩) hgr).trans c1; have d2 := (qq.cell (p := ⟨g, k + j, none⟩) hgr).trans c2; clear qq))
                have O7 := Lib.hid ((O6.out.drewN 1).below Q7.out)
                have R7 := Lib.hid (Q6.out.drew.trans (Q7.out.mono hBz))
                have hz7 : w.heap.size ≤ w6.heap.size := Nat.le_trans hz6 Q7.out.size
                clear Q7 d1 d2 c1 c2 O6 Q6 HC
                go_wp2_with fail
                go_roundg (n - (k + (q + 1)))
                case measure => omega
                case rel => exact ⟨R, q + 1, by omega, by omega, Nat.le_refl _, rfl, by go_num, by omega, O7.out, SK2.out, R7.out, hz7⟩
            · have hend : k + q = n := by omega
              have hlt4 : ¬ (q : Int) < ((n - k : Nat) : Int) := by omega
              have hlt5 : ¬ (q : Int) < (n : Int) - k := by omega
              rw [hend] at C6
              have rl := row_len (S := S) (R := R) (n := n) (by omega) HL.out
              obtain ⟨m, hm⟩ : ∃ m, R.length = m := ⟨_, rfl⟩
              have hcl : ∀ ty, (Builtin.clear_ #[41] ty #[.slice (some ⟨g, m, none⟩) (n - m) (c - m)]).run Try.prog wr = .ok (.tuple #[]) (wr.setCells g m (List.replicate (n - m) (.slice none 0 0))) := fun ty =>
                Lib.run_clear_slice wr _ _ ty (.slice none 0 0) Try.underlying41 Try.zeroValue22 rfl rfl g m (n - m) (c - m) (by omega) (fun j hj => by rw [O6.out.cell (j := m + j) (by rw [rl]; omega)]; rfl) (fun j hj => O6.out.frozen (m + j))
              obtain ⟨ws, o7, htk⟩ := OwnV.storedAll (List.replicate (n - m) (.slice none 0 0)) wr _ m O6.out
              have R7 := Lib.hid (belowSs hBg (List.replicate (n - m) (.slice none 0 0)) wr m Q6.out)
              have O7 := Lib.hid (OwnV.take_ o7 (m := m) (by omega))
              rw [htk] at O7
              have htk2 : (cellsS (R ++ S.drop R.length)).take m = cellsS R := by
                unfold cellsS
                rw [List.map_append, List.take_append_of_le_length (by rw [List.length_map, hm]; exact Nat.le_refl _), List.take_of_length_le (by rw [List.length_map, hm]; exact Nat.le_refl _)]
              rw [htk2] at O7
              have mc : ¬ c = m := by omega
              have mc2 : (m : Int) ≤ n := by omega
              have mc4 : (m : Int) ≤ c := by omega
              have mc5 : (0 : Int) ≤ m := by omega
              have HM := Lib.hid hm
              have C7 := C6
              clear o7 htk htk2 rl
              rw [hm]
              clear hm
              go_wp2_with fail
              go_ret
              exact ⟨R, by rw [HM.out]; rfl, by rw [HM.out]; exact O7.out.s, by rw [HL.out]; exact C6.out, R7.out⟩
      · obtain rfl : k = n := by omega
        have hlt2 : ¬ (k : Int) < k := by omega
        have e : S.take k = S := List.take_of_length_le (by have := HL.out; omega)
        rw [e] at C4
        go_wp2_with fail
        go_ret
        exact ⟨S, by rw [HL.out]; rfl, by rw [HL.out]; exact O4.out, by rw [HL.out]; exact C4.out, Q4.out⟩
end Go.Proofs.Ytkkomaohcijhnaa
namespace Go.Proofs.Ytkkomaohcijhnaa
open Go.RowKit
def OwnParts (w : World) (B : Nat) (R : List Sl) : Prop :=
  (∀ s ∈ R, Own w B 5 s.a s.n s.c s.l) ∧ R.Pairwise fun s t => ∀ x y, s.a = some x → t.a = some y → x.block ≠ y.block
def OwnP (w : World) (B : Nat) (a : Option Addr) (n c : Nat) (R : List Sl) : Prop :=
  OwnS w B 22 a n c R ∧ OwnParts w B R ∧ ∀ s ∈ R, ∀ x y, s.a = some x → a = some y → x.block ≠ y.block
theorem OwnParts.keep {w w' : World} {B : Nat} {R : List Sl} (h : OwnParts w B R) (hk : ∀ s ∈ R, ∀ x, s.a = some x → w'.heap[x.block]? = w.heap[x.block]?) : OwnParts w' B R :=
  ⟨fun s hs => (h.1 s hs).keep (hk s hs), h.2⟩
theorem OwnParts.below {w w' : World} {B : Nat} {R : List Sl} (h : OwnParts w B R) (hb : Below w.heap.size w w') : OwnParts w' B R :=
  h.keep fun s hs x hx => hb.block _ ((h.1 s hs).base x hx).2
theorem OwnP.below {w w' : World} {B : Nat} {a : Option Addr} {n c : Nat} {R : List Sl} (h : OwnP w B a n c R) (hb : Below w.heap.size w w') : OwnP w' B a n c R :=
  ⟨h.1.below hb, h.2.1.below hb, h.2.2⟩
theorem OwnP.rw_ {w : World} {B : Nat} {a : Option Addr} {n c : Nat} {R : List Sl} (h : OwnP w B a n c R) : Rw w a n c R := h.1.rw_ fun s hs => (h.2.1.1 s hs).bs
theorem OwnParts.snoc {w : World} {B D : Nat} {R : List Sl} {s : Sl} (h : OwnParts w B R) (hs : Own w D 5 s.a s.n s.c s.l) (hB : B ≤ D) (hD : ∀ t ∈ R, ∀ x, t.a = some x → x.block < D) : OwnParts w B (R ++ [s]) := by
  refine ⟨fun t ht => ?_, ?_⟩
  · rcases List.mem_append.1 ht with h1 | h1
    · exact h.1 t h1
    · rw [List.mem_singleton] at h1
      subst h1
      exact hs.more hB
  · rw [List.pairwise_append]
    refine ⟨h.2, List.pairwise_singleton _ _, fun t ht u hu x y hx hy => ?_⟩
    rw [List.mem_singleton] at hu
    subst hu
    have h1 := hD t ht x hx
    have h2 := (hs.base y hy).1
    omega
theorem bs_low {w : World} {s : Sl} (h : Bs w s.a s.n s.c s.l) : LowP w w.heap.size s := by
  refine ⟨h, fun hn x hx => ?_⟩
  obtain ⟨b, off, e, hb, _⟩ := h.2.2.2 hn
  rw [e] at hx
  injection hx with hx
  subst hx
  exact hb
theorem OwnV.cellO {w : World} {B : Nat} {e : TypeId} {g n c : Nat} {vs : List Value} (h : OwnV w B e (some ⟨g, 0, none⟩) n c vs) {j : Nat} {v : Value} (hj : vs[j]? = some v) : w.cell? ⟨g, j, none⟩ = some v := by
  obtain ⟨hl, rfl⟩ := List.getElem?_eq_some_iff.1 hj
  exact h.cell hl
theorem lsOf_perm {A B : List Sl} (h : A.Perm B) (x : List UInt8) : x ∈ lsOf A ↔ x ∈ lsOf B := by
  unfold lsOf
  exact (h.map _).mem_iff
set_option maxRecDepth 100000 in
set_option maxHeartbeats 8000000 in
theorem sorted_any {w : World} {a : Option Addr} {n c : Nat} {ss : List Sl} (hx : Rw w a n c ss) (hn : n ≤ 1000000) (hl : ∀ s ∈ ss, s.n ≤ 1000000) :
    Calls Try.prog 26 #[.slice a n c] w fun e w' => ∃ a' c' R, e = .returned (.slice a' R.length c') ∧ OwnP w' w.heap.size a' R.length c' R ∧ lsOf R = srt (lsOf ss) ∧ Below w.heap.size w w' := by
  obtain ⟨i0, hi, hz0, hz1, hz2⟩ := info_parts info_u8
  have H1 := Lib.hid (clone_rw hx hn)
  have LP := Lib.hid (fun s (hs : s ∈ ss) => (by
    obtain ⟨i, hi, rfl⟩ := List.getElem_of_mem hs
    exact bs_low (hx.2 i hi) : LowP w w.heap.size s))
  have HLN := Lib.hid hx.len
  have HL := Lib.hid hl
  clear hx hl
  obtain ⟨H, hH⟩ : ∃ H, w.heap.size = H := ⟨_, rfl⟩
  rw [hH] at H1 LP ⊢
  go_enter Try.func26, Try.ntmps26
  go_wp2_with fail
  with_reducible refine H1.out.mono ?_
  rintro e w1 ⟨a1, c1, rfl, ho, q⟩
  have O1 := Lib.hid ho
  have Q1 := Lib.hid q
  clear ho q H1
  have H2 := Lib.hid (sort_rw O1.out (fun s hs => (LP.out s hs).below Q1.out) hn)
  go_wp2_with fail
  with_reducible refine H2.out.mono ?_
  rintro e w2 ⟨rfl, ss1, hp, hs, ho, q⟩
  have O2 := Lib.hid ho
  have P2 := Lib.hid hp
  have S2 := Lib.hid hs
  have Q2 := Lib.hid (Q1.out.trans q)
  clear ho q H2 hp hs O1 Q1
  have H3 := Lib.hid (compact_rw O2.out (fun s hs => (LP.out s (P2.out.mem_iff.1 hs)).below Q2.out) S2.out hn)
  go_wp2_with fail
  with_reducible refine H3.out.mono ?_
  rintro e w3 ⟨R0, rfl, ho, hc, q⟩
  have O3 := Lib.hid ho
  have C3 := Lib.hid hc
  have Q3 := Lib.hid (Q2.out.trans q)
  clear ho q H3 hc S2 O2 Q2
  have hz3 : H ≤ w3.heap.size := by rw [← hH]; exact Q3.out.size
  obtain ⟨m, hm⟩ : ∃ m, R0.length = m := ⟨_, rfl⟩
  have HM := Lib.hid hm
  have hbig : m ≤ 9223372036854775807 := by have := O3.out.v.cap; rw [hm] at this; unfold maxLen at this; omega
  rw [hm] at O3 ⊢
  clear hm
  have HG := Lib.hid (fun y (hy : a1 = some y) => (O3.out.v.base y hy))
  obtain ⟨Z, hZ⟩ : ∃ Z, w3.heap.size = Z := ⟨_, rfl⟩
  rw [hZ] at HG hz3
  have HZ := Lib.hid hZ
  clear hZ
  have hm0 : (m : Int) ≤ 9223372036854775807 := by omega
  go_wp2_with fail
  go_loopw [16] (fun i wr => ∃ R : List Sl, R.length ≤ m ∧ i = .int .i64 R.length ∧ OwnV wr H 22 a1 m c1 (cellsS (R ++ R0.drop R.length)) ∧ OwnParts wr H R ∧ lsOf R = lsOf (R0.take R.length) ∧ (∀ s ∈ R, ∀ x y, s.a = some x → a1 = some y → x.block ≠ y.block) ∧ Below H w wr ∧ Z ≤ wr.heap.size) (fun i _ => m - (intOf i).toNat)
  case atStart => exact ⟨[], Nat.zero_le _, rfl, O3.out.v, ⟨fun s hs => absurd hs (by simp), List.Pairwise.nil⟩, rfl, fun s hs => absurd hs (by simp), Q3.out, by rw [HZ.out]; exact Nat.le_refl _⟩
  case round =>
    obtain ⟨R, hRm, rfl, ho, hpr, hls, hne, hq, hzz⟩ := hrel
    have O4 := Lib.hid ho
    have A4 := Lib.hid hpr
    have L4 := Lib.hid hls
    have N4 := Lib.hid hne
    have Q4 := Lib.hid hq
    clear ho hpr hls hne hq O3 Q3
    obtain ⟨j, hj⟩ : ∃ j, R.length = j := ⟨_, rfl⟩
    have hj0 : (0 : Int) ≤ j := by omega
    by_cases hlt : j < m
    · have hlt2 : (j : Int) < m := by omega
      have hkS : R.length < R0.length := by have := HM.out; omega
      obtain ⟨g, rfl⟩ : ∃ g, a1 = some ⟨g, 0, none⟩ := by
        rcases O4.out.2.2 with ⟨hv, hz⟩ | ⟨g, cap, cur, hv, _⟩
        · omega
        · injection hv with e1 e2 e3
          exact ⟨g, e1⟩
      have hg1 := (HG.out _ rfl).1
      have hg2 := (HG.out _ rfl).2
      dsimp only at hg1 hg2
      have c1 := O4.out.cellO (row_at (S := R0) (R := R) (j := R.length) (Nat.le_refl _) hkS)
      have hrs := fun x => row_set (S := R0) (R := R) x hkS
      have htk := List.take_succ_eq_append_getElem hkS
      have hin : R0[R.length] ∈ ss := P2.out.mem_iff.1 (C3.out.2.2 _ (List.getElem_mem hkS))
      have hxl := (LP.out _ hin).below Q4.out
      have hxn := HL.out _ hin
      clear hin
      have RS := Lib.hid hrs
      have TK := Lib.hid htk
      clear hrs htk
      obtain ⟨x, hxx⟩ : ∃ x, R0[R.length] = x := ⟨_, rfl⟩
      have TKE := Lib.hid hxx
      rw [hxx] at c1 hxl hxn TK
      clear hxx
      obtain ⟨xa, xn, xc, xl⟩ := x
      unfold Sl.v at c1
      dsimp only at c1 hxl hxn TK TKE
      rw [hj] at c1
      have XL := Lib.hid hxl.1
      have hfr := O4.out.frozen j
      clear hxl
      have HJ := Lib.hid hj
      rw [hj]
      clear hj
      obtain ⟨D, hD⟩ : ∃ D, wr.heap.size = D := ⟨_, rfl⟩
      have lD : Z ≤ D := by omega
      have WE : Hid (Own (wr.alloc (.cells #[] 5)) D 5 (some ⟨D, 0, none⟩) 0 0 []) := by
        rw [← hD]
        exact World.ownsRow_made wr #[] 0 (Nat.le_refl _) (Nat.zero_le _) rfl
      have X5 := Lib.hid (XL.out.alloc (.cells #[] 5))
      have O5 := Lib.hid (O4.out.alloc (.cells #[] 5))
      have A5 := Lib.hid (A4.out.below (bal (Below.refl _ wr) (.cells #[] 5)))
      have Q5 := Lib.hid (Q4.out.alloc (by omega) (.cells #[] 5))
      have hs5 : D ≤ (wr.alloc (.cells #[] 5)).heap.size := by rw [← hD]; simp
      have hs5' : Hid ((wr.alloc (.cells #[] 5)).heap.size = D + 1) := by rw [Hid, ← hD]; simp
      have BD : Hid (∀ s ∈ R, ∀ x, s.a = some x → x.block < D) := fun s hs x hx => by rw [← hD]; exact ((A4.out.1 s hs).base x hx).2
      go_wp2_with (at_builtin; go_must (refine wpList_app _ rfl _ _ 22 rfl D 5 i0 Try.underlying22 hi hz0 hz1 hz2 (some ⟨D, 0, none⟩) 0 0 [] rfl WE.out xa xn xc xl rfl X5.out (by omega) hs5 ?_))
      intro a5 c5 w5 ho5 hg5
      have D6 := Lib.hid (app_below WE.out hg5 (Nat.le_refl D) hs5)
      have O6 := Lib.hid (O5.out.keep (w' := w5) fun x hx => D6.out.block _ (by injection hx with hx; subst hx; show g < D; omega))
      have A6 := Lib.hid (A5.out.keep (w' := w5) fun s hs x hx => D6.out.block _ (BD.out s hs x hx))
      have Q6 := Lib.hid (Q5.out.trans (D6.out.mono (by omega)))
      have zz6 : Z ≤ w5.heap.size := by have := D6.out.size; have := hs5'.out; omega
      have A7 := Lib.hid (A6.out.snoc (s := ⟨a5, xn, c5, xl⟩) ho5 (by omega) BD.out)
      have N7 : Hid (∀ s ∈ R ++ [(⟨a5, xn, c5, xl⟩ : Sl)], ∀ x y, s.a = some x → some (⟨g, 0, none⟩ : Addr) = some y → x.block ≠ y.block) := fun s hs x y hx hy => by
        rcases List.mem_append.1 hs with h | h
        · exact N4.out s h x y hx hy
        · rw [List.mem_singleton] at h
          subst h
          have h1 := (ho5.base x hx).1
          injection hy with hy
          subst hy
          show x.block ≠ g
          omega
      have hcl := O6.out.cellO (j := j) (v := .slice xa xn xc) (by rw [← HJ.out]; exact row_at (S := R0) (R := R) (j := R.length) (Nat.le_refl _) hkS |>.trans (by rw [TKE.out]; rfl))
      have hfr6 := O6.out.frozen j
      have O8 := Lib.hid (O6.out.stored j (.slice a5 xn c5))
      have A8 := Lib.hid (A7.out.keep (w' := w5.setCell ⟨g, j, none⟩ (.slice a5 xn c5)) fun s hs x hx => Below.heap_setCell _ ⟨g, j, none⟩ _ _ (N7.out s hs x ⟨g, 0, none⟩ hx rfl))
      have Q8 := Lib.hid (belowS Q6.out hg1 j (.slice a5 xn c5))
      have zz8 : Z ≤ (w5.setCell ⟨g, j, none⟩ (.slice a5 xn c5)).heap.size := by rw [size_set]; exact zz6
      clear ho5 hg5 c1 hfr O4 A4 Q4 O5 A5 Q5 hs5 D6 A6 Q6
      go_wp2_with fail
      go_roundw
      case rel =>
        refine ⟨R ++ [⟨a5, xn, c5, xl⟩], ?_, ?_, ?_, A8.out, ?_, N7.out, Q8.out, zz8⟩
        · rw [List.length_append, HJ.out]; simp only [List.length_singleton]; omega
        · rw [List.length_append, HJ.out]; go_num
        · rw [← RS.out ⟨a5, xn, c5, xl⟩, HJ.out]
          have := O8.out
          rw [HJ.out] at this
          exact this
        · rw [List.length_append, List.length_singleton, TK.out, lsOf_app, lsOf_app, L4.out]
          rfl
      case measure => simp [intOf]; omega
    · have e : j = m := by omega
      have hlt2 : ¬ (j : Int) < m := by omega
      rw [hj, e, ← HM.out, List.take_of_length_le (Nat.le_refl _)] at L4
      rw [hj, e, ← HM.out, List.drop_of_length_le (Nat.le_refl _), List.append_nil] at O4
      rw [hj]
      have E1 := Lib.hid (hj.trans e)
      have SR : Hid (lsOf R = srt (lsOf ss)) := by
        rw [Hid, L4.out]
        refine srt_of C3.out.1 fun x => ?_
        rw [C3.out.2.1 x, List.take_of_length_le (Nat.le_refl _)]
        exact lsOf_perm P2.out x
      clear hj e
      go_wp2_with fail
      go_ret
      exact ⟨a1, c1, R, by rw [E1.out]; rfl, ⟨by rw [E1.out]; have := O4.out; rw [HM.out] at this; exact this.s, A4.out, N4.out⟩, SR.out, Q4.out⟩
end Go.Proofs.Ytkkomaohcijhnaa
namespace Go.Proofs.Ytkkomaohcijhnaa
open Go.RowKit
set_option maxRecDepth 100000 in
set_option maxHeartbeats 4000000 in
theorem asc_at {w : World} {g : Nat} {a : Option Addr} {n c : Nat} {ss : List Sl} {i k : Nat} (hik : i + 1 = k) (hg : w.cell? ⟨g, 0, none⟩ = some (.slice a n c)) (hgz : g < w.heap.size) (hx : Rw w a n c ss) (h : k < n) {z : Bool} (hz : ∀ (h1 : i < ss.length) (h2 : k < ss.length), decide (lex ss[i].l ss[k].l < 0) = z) :
    Calls Try.prog 45 #[.int .i64 k, .pointer (some ⟨g, 0, none⟩)] w fun e w' => e = .returned (.bool z) ∧ Below w.heap.size w w' := by
  have hn : n ≤ 9223372036854775807 := by have := hx.1.2.1; have := hx.1.2.2.1; unfold maxLen at this; omega
  obtain ⟨b, off, l1, rfl, hb, c1, x1⟩ := hx.at_ (i := i) (by omega)
  obtain ⟨b2, off2, l2, e2, _, c2, x2⟩ := hx.at_ (i := k) h
  injection e2 with e2
  injection e2 with e2 e3
  subst e2; subst e3
  have hz' := hz l1 l2
  generalize ss[i] = x at *
  generalize ss[k] = y at *
  obtain ⟨xa, xn, xc, xl⟩ := x
  obtain ⟨ya, yn, yc, yl⟩ := y
  dsimp only at c1 c2 x1 x2 hz'
  have HC := Lib.hid (compare_any x1.drew x2.drew)
  have HZ := Lib.hid hz'
  clear hz' hz hx x1 x2 l1 l2
  generalize lex xl yl = v at *
  have s1 : IntKind.i64.wrap ((k : Int) - 1) = i := by rw [IntKind.wrap_i64]; omega
  have s7 : IntKind.i64.wrap (i : Int) = i := by rw [IntKind.wrap_i64]; omega
  have s2 : (k : Int) - 1 = i := by omega
  have s3 : (0 : Int) ≤ i := by omega
  have s4 : (i : Int) < n := by omega
  have s5 : (0 : Int) ≤ k := by omega
  have s6 : (k : Int) < n := by omega
  have HIK := Lib.hid hik
  have hb1 : b < w.drew.heap.size := hb
  have hg1 : g < w.drew.heap.size := hgz
  clear hik
  go_enter Try.func45, Try.ntmps45
  go_wp2_with fail
  go_region_held3 (fun w' => w'.cell? ⟨g, 0, none⟩ = some (.slice (some ⟨b, off, none⟩) n c) ∧ w'.cell? ⟨b, off + i, none⟩ = some (.slice xa xn xc) ∧ w'.cell? ⟨b, off + k, none⟩ = some (.slice ya yn yc)) (first | exact ⟨hg, c1, c2⟩ | exact ⟨d0, d1, d2⟩ | assumption)
    ((go_at_call 41; (with_reducible refine HC.out.mono ?_); rintro e w5 ⟨rfl, q⟩; have Q5 := Lib.hid q; have d0 := (q.cell (p := ⟨g, 0, none⟩) hg1).trans hg; have d1 := (q.cell (p := ⟨b, off + i, none⟩) hb1).trans c1; have d2 := (q.cell (p := ⟨b, off + k, none⟩) hb1).trans c2; clear q))
  go_wp2_with fail
  go_ret
  exact ⟨by rw [← HZ.out]; rfl, (Below.refl _ w).drew.trans Q5.out⟩
set_option maxRecDepth 100000 in
set_option maxHeartbeats 4000000 in
theorem ordered_any {w : World} {a : Option Addr} {n c : Nat} {ss : List Sl} (hx : Rw w a n c ss) :
    Calls Try.prog 29 #[.slice a n c] w fun e w' => e = .returned (.bool (ordR (lsOf ss))) ∧ Below w.heap.size w w' := by
  have HX := Lib.hid hx
  have hn : n ≤ 9223372036854775807 := by have := hx.1.2.1; have := hx.1.2.2.1; unfold maxLen at this; omega
  have HL := Lib.hid hx.len
  obtain ⟨R, hR⟩ : ∃ R, ordR (lsOf ss) = R := ⟨_, rfl⟩
  have HR := Lib.hid hR
  rw [hR]
  clear hx hR
  obtain ⟨H, hH⟩ : ∃ H, w.heap.size = H := ⟨_, rfl⟩
  have T2 : Hid (Blk (w.alloc (.cells #[.slice a n c] 41)) H 41 #[.slice a n c]) := by
    rw [← hH]
    exact Blk.new w 41 #[.slice a n c]
  have Q2 := Lib.hid (bal (Below.refl w.heap.size w) (.cells #[.slice a n c] 41))
  have HXB := Lib.hid (fun v (h : Below H w v) => HX.out.below (w' := v) (by rw [hH]; exact h))
  rw [hH] at Q2 ⊢
  have z2 : Hid ((w.alloc (.cells #[.slice a n c] 41)).heap.size = H + 1) := by rw [Hid, ← hH]; simp
  go_enter Try.func29, Try.ntmps29
  go_wp2_with fail
  generalize w.alloc (.cells #[.slice a n c] 41) = w2 at *
  go_loopw [4] (fun i wr => ∃ j : Nat, 1 ≤ j ∧ (j ≤ n ∨ j = 1) ∧ i = .int .i64 j ∧ (∀ t, t + 1 < j → lex ((lsOf ss).getD t []) ((lsOf ss).getD (t + 1) []) = -1) ∧ Blk wr H 41 #[.slice a n c] ∧ Below H w wr) (fun i _ => n - (intOf i).toNat)
  case atStart => exact ⟨1, Nat.le_refl _, .inr rfl, rfl, fun t ht => by omega, T2.out, Q2.out⟩
  case round =>
    obtain ⟨j, hj1, hj, rfl, hall, ht, hq⟩ := hrel
    have HALL := Lib.hid hall
    have T4 := Lib.hid ht
    have Q4 := Lib.hid hq
    have X4 := Lib.hid (HXB.out wr hq)
    clear hall ht hq T2 Q2 z2
    have hc0 : wr.cell? ⟨H, 0, none⟩ = some (.slice a n c) := by simpa using T4.out.cell 0
    have hj0 : (0 : Int) ≤ j := by omega
    have hzz := T4.out.lt
    by_cases hlt : j < n
    · have hlt2 : (j : Int) < n := by omega
      have hjl : j - 1 + 1 < ss.length := by have := HL.out; omega
      have hwr : IntKind.i64.wrap ((j : Int) + 1) = (j : Int) + 1 := by rw [IntKind.wrap_i64]; omega
      obtain ⟨i, hi⟩ : ∃ i, i + 1 = j := ⟨j - 1, by omega⟩
      have l1 : i < ss.length := by omega
      have l2 : j < ss.length := by omega
      have g1 := ord_get l1
      have g2 := ord_get l2
      have hbd := lex_bd ss[i].l ss[j].l
      rcases hz : decide (lex ss[i].l ss[j].l < 0) with _ | _
      · have HC := Lib.hid (asc_at hi hc0 hzz X4.out hlt (z := false) (fun _ _ => hz))
        have h2 := of_decide_eq_false hz
        have hres : R = false := by
          rw [← HR.out]
          rcases h : ordR (lsOf ss) with _ | _
          · rfl
          · have := ordR_iff.1 h i (by rw [lsOf_len]; omega)
            rw [hi, g1, g2] at this
            omega
        subst hres
        clear hz h2 g1 g2 hbd hjl hi
        go_wp2_with fail
        with_reducible refine HC.out.mono ?_
        rintro e w5 ⟨rfl, q⟩
        have Q5 := Lib.hid (Q4.out.trans (q.mono (by omega)))
        clear q
        go_wp2_with fail
        go_ret
        exact ⟨rfl, Q5.out⟩
      · have HC := Lib.hid (asc_at hi hc0 hzz X4.out hlt (z := true) (fun _ _ => hz))
        have h2 := of_decide_eq_true hz
        have HA : Hid (∀ t, t + 1 < j + 1 → lex ((lsOf ss).getD t []) ((lsOf ss).getD (t + 1) []) = -1) := fun t ht => by
          rcases Nat.lt_or_ge (t + 1) j with h | h
          · exact HALL.out t h
          · obtain rfl : t = i := by omega
            rw [hi, g1, g2]
            omega
        clear hz h2 g1 g2 hbd hjl hi
        go_wp2_with fail
        with_reducible refine HC.out.mono ?_
        rintro e w5 ⟨rfl, q⟩
        have Q5 := Lib.hid (Q4.out.trans (q.mono (by omega)))
        have T5 := Lib.hid (T4.out.below q T4.out.lt)
        clear q
        go_wp2_with fail
        exact ⟨⟨j + 1, by omega, .inl (by omega), by go_num, HA.out, T5.out, Q5.out⟩, by simp [intOf]; omega⟩
    · have hlt2 : ¬ (j : Int) < n := by omega
      have hres : R = true := by
        rw [← HR.out]
        refine ordR_iff.2 fun i hi => HALL.out i ?_
        rw [lsOf_len, HL.out] at hi
        omega
      subst hres
      clear hj
      go_wp2_with fail
      go_ret
      exact ⟨rfl, Q4.out⟩
end Go.Proofs.Ytkkomaohcijhnaa
namespace Go.Proofs.Ytkkomaohcijhnaa
open Go.RowKit
def Vw (w : World) (A : Option Addr) (m : Nat) (us : List Value) : Prop :=
  us.length = m ∧ (0 < m → ∃ b off, A = some ⟨b, off, none⟩ ∧ ∀ j (h : j < us.length), w.cell? ⟨b, off + j, none⟩ = some us[j])
theorem Rw.vw {w : World} {a : Option Addr} {n c : Nat} {ss : List Sl} (h : Rw w a n c ss) : Vw w a n (ss.map Sl.v) := by
  refine ⟨by rw [List.length_map]; exact h.len, fun hn => ?_⟩
  obtain ⟨b, off, e, hb, hc⟩ := h.1.2.2.2 hn
  exact ⟨b, off, e, fun j hj => by rw [List.length_map] at hj; rw [hc j hj, List.getElem_map]; rfl⟩
theorem OwnV.vw {w : World} {B : Nat} {e : TypeId} {a : Option Addr} {n c : Nat} {vs : List Value} (h : OwnV w B e a n c vs) : Vw w a n vs := by
  refine ⟨h.1, fun hn => ?_⟩
  rcases h.2.2 with ⟨_, hz⟩ | ⟨g, cap, cur, hv, _⟩
  · omega
  · injection hv with e1 e2 e3
    subst e1
    exact ⟨g, 0, rfl, fun j hj => by rw [Nat.zero_add]; exact h.cell hj⟩
section
variable {P : Program}
theorem run_appV_nil (w : World) (base : Nat) (t ty e : TypeId) (i : TypeInfo) (ht : P.underlying t = some (.slice e)) (hi : P.info? e = some i)
    (a : Option Addr) (n c cc : Nat) (vs : List Value) (hown : OwnV w base e a n c vs) : (Builtin.append_ #[t, t] ty #[.slice a n c, .slice none 0 cc]).run P w = .ok (.slice a n c) w := by
  rcases hown.2.2 with ⟨hv, rfl⟩ | ⟨g, cap, cur, hv, _, _, hnc, _⟩
  · injection hv with h1 h2 h3
    subst h1; subst h3
    simp [Builtin.append_, run_underlying ht, sizeOf, typeInfo, hi, Builtin.lenOf, Builtin.firstCells]
  · injection hv with h1 h2 h3
    subst h1; subst h3
    simp [Builtin.append_, run_underlying ht, sizeOf, typeInfo, hi, Builtin.lenOf, Builtin.firstCells, hnc, storeCells]
theorem run_appV (w : World) (base : Nat) (t ty e : TypeId) (i : TypeInfo) (z : Value) (by_ : Nat) (ht : P.underlying t = some (.slice e)) (hi : P.info? e = some i) (hz : i.zero = some z) (hzc : z.cells.size = 1) (hsize : i.size = 1) (hby : i.bytes = by_)
    (a : Option Addr) (n c : Nat) (vs : List Value) (hown : OwnV w base e a n c vs) (A : Option Addr) (m cc : Nat) (us : List Value) (hr : Vw w A m us) (h1 : ∀ u ∈ us, u.oneCell' = true) (hlim : n + m ≤ maxLen) (hb : (n + m) * by_ ≤ 140737488355328) (hbase : base ≤ w.heap.size) :
    ∃ a' c' w', (Builtin.append_ #[t, t] ty #[.slice a n c, .slice A m cc]).run P w = .ok (.slice a' (n + m) c') w' ∧ OwnV w' base e a' (n + m) c' (vs ++ us) ∧ w.grownBy w' (Value.ownBlock (.slice a n c)) := by
  obtain ⟨hl, hx⟩ := hr
  cases A with
  | none =>
    have hm0 : m = 0 := by
      rcases Nat.eq_zero_or_pos m with h | h
      · exact h
      · obtain ⟨b, off, e, _⟩ := hx h
        cases e
    subst hm0
    have hr0 : us = [] := List.eq_nil_of_length_eq_zero hl
    subst hr0
    exact ⟨a, c, w, run_appV_nil w base t ty e i ht hi a n c cc vs hown, by simpa using hown, only_refl w _⟩
  | some ad =>
    have hcells : ∀ j u, us[j]? = some u → w.cell? (ad.add j) = some u := by
      intro j u hj
      obtain ⟨hj', rfl⟩ := List.getElem?_eq_some_iff.1 hj
      obtain ⟨b, off, e, hc⟩ := hx (by omega)
      injection e with e
      subst e
      have hp : (⟨b, off, none⟩ : Addr).add j = ⟨b, off + j, none⟩ := by unfold Addr.add; split <;> simp_all
      rw [hp]
      exact hc j hj'
    obtain ⟨v', w', h2, h3, h4, _⟩ := run_append_own (P := P) w base t ty e i z 1 by_ ht hi hz hsize hby hzc (by decide) (.slice a n c) n vs hown.2 ad m cc us (by omega) hcells h1 hlim hb hbase
    obtain ⟨a', c', rfl, ho⟩ := OwnV.form h3 (by rw [List.length_append, hown.1, hl])
    exact ⟨a', c', w', h2, ho, h4⟩
theorem wp_appV (w : World) {o : Oper} {act : Act} {K : Act → World → Prop} {Q : Exit → Act → World → Prop} (s x : Operand) (t : TypeId)
    (ho : o.op = .call { callee := .builtin .append, args := #[s, x], argTypes := #[t, t] })
    (base : Nat) (e : TypeId) (i : TypeInfo) (z : Value) (by_ : Nat) (ht : P.underlying t = some (.slice e)) (hi : P.info? e = some i) (hz : i.zero = some z) (hzc : z.cells.size = 1) (hsize : i.size = 1) (hby : i.bytes = by_)
    (a : Option Addr) (n c : Nat) (vs : List Value) (hs : act.eval s = .slice a n c) (hown : OwnV w base e a n c vs) (A : Option Addr) (m cc : Nat) (us : List Value) (hx : act.eval x = .slice A m cc) (hr : Vw w A m us) (h1 : ∀ u ∈ us, u.oneCell' = true) (hlim : n + m ≤ maxLen) (hb : (n + m) * by_ ≤ 140737488355328) (hbase : base ≤ w.heap.size)
    (h : ∀ a' c' w', OwnV w' base e a' (n + m) c' (vs ++ us) → w.grownBy w' (Value.ownBlock (.slice a n c)) → K (act.put o.dst (.slice a' (n + m) c')) w') : o.wp P act w K Q := by
  obtain ⟨a', c', w', h2, h3, h4⟩ := run_appV (P := P) w base t o.type e i z by_ ht hi hz hzc hsize hby a n c vs hown A m cc us hr h1 hlim hb hbase
  unfold Oper.wp execOp
  simp only [ho, resolve, invoke, builtin, Sem.run_bind, Sem.run_pure, Result.andThen_ok, List.map_toArray, List.map_cons, List.map_nil, hs, hx, h2]
  exact h a' c' w' h3 h4
theorem wpList_appV (w : World) {ops : Array Oper} {rest : List Oper} {o : Oper} {act : Act} {Q : Exit → Act → World → Prop} (hgd : o.guard = none) (s x : Operand) (t : TypeId)
    (ho : o.op = .call { callee := .builtin .append, args := #[s, x], argTypes := #[t, t] })
    (base : Nat) (e : TypeId) (i : TypeInfo) (z : Value) (by_ : Nat) (ht : P.underlying t = some (.slice e)) (hi : P.info? e = some i) (hz : i.zero = some z) (hzc : z.cells.size = 1) (hsize : i.size = 1) (hby : i.bytes = by_)
    (a : Option Addr) (n c : Nat) (vs : List Value) (hs : act.eval s = .slice a n c) (hown : OwnV w base e a n c vs) (A : Option Addr) (m cc : Nat) (us : List Value) (hx : act.eval x = .slice A m cc) (hr : Vw w A m us) (h1 : ∀ u ∈ us, u.oneCell' = true) (hlim : n + m ≤ maxLen) (hb : (n + m) * by_ ≤ 140737488355328) (hbase : base ≤ w.heap.size)
    (h : ∀ a' c' w', OwnV w' base e a' (n + m) c' (vs ++ us) → w.grownBy w' (Value.ownBlock (.slice a n c)) → wpList P ops Q rest (act.put o.dst (.slice a' (n + m) c')) w') : wpList P ops Q (o :: rest) act w :=
  wpList_plain hgd fun _ hK => wp_appV w s x t ho base e i z by_ ht hi hz hzc hsize hby a n c vs hs hown A m cc us hx hr h1 hlim hb hbase fun a' c' w' h2 h3 => hK _ _ (h a' c' w' h2 h3)
end
theorem appV_below {w w' : World} {B base : Nat} {e : TypeId} {a : Option Addr} {n c : Nat} {vs : List Value} (hown : OwnV w base e a n c vs) (hg : w.grownBy w' (Value.ownBlock (.slice a n c))) (hB : B ≤ base) (hz : B ≤ w.heap.size) : Below B w w' :=
  (Below.refl B w).grown hg hz fun k hk => by
    cases a with
    | none => simp [Value.ownBlock] at hk
    | some x =>
      simp only [Value.ownBlock, Option.some.injEq] at hk
      have := (hown.base x rfl).1
      omega
theorem OwnV.lit (w : World) (e : TypeId) (cs : Array Value) (B : Nat) (hB : B ≤ w.heap.size) (hm : cs.size ≤ maxLen) : OwnV (w.alloc (.cells cs e)) B e (some ⟨w.heap.size, 0, none⟩) cs.size cs.size cs.toList :=
  ⟨by simp, by simp, .inr ⟨w.heap.size, cs.size, cs, rfl, hB, Blk.new w e cs, Nat.le_refl _, hm, by simp, by rw [Nat.mul_one]; exact List.take_of_length_le (by simp)⟩⟩
end Go.Proofs.Ytkkomaohcijhnaa
namespace Go.Proofs.Ytkkomaohcijhnaa
open Go.RowKit
structure Past (w : World) where
  v : World
  h : Below w.heap.size w v
instance (w : World) : Inhabited (Past w) := ⟨⟨w, Below.refl _ _⟩⟩
theorem region_past {P : Program} {id : Nat} {Q : Exit → Act → World → Prop} {a : Act} {w : World} {l : List Oper} (hm : P.follows .mixedOrders = true) (hB : Region.lexB .any l.toArray = true)
    (h : wpQuiet P l.toArray (fun w' => ∃ p : Past w, w' = p.v) (fun a' => ∀ w', (∃ p : Past w, w' = p.v) → Q .normal a' w') l a) : (Code.region id l.toArray true).wp P Q a w :=
  wp_region_quiet (C := fun w' => ∃ p : Past w, w' = p.v) hm hB ⟨⟨w.drew, (Below.refl _ w).drew⟩, rfl⟩ (by simpa using h)
theorem Calls.past_of {P : Program} {f : FuncId} {args : Array Value} {w : World} {p : Past w} {u : Value} (h : Calls P f args p.v fun e w' => e = .returned u ∧ Below p.v.heap.size p.v w') :
    Calls P f args p.v fun e w'' => e = .returned u ∧ ∃ p' : Past w, w'' = p'.v :=
  h.mono fun _ _ ⟨he, hq⟩ => ⟨he, ⟨_, p.h.trans (hq.mono p.h.size)⟩, rfl⟩
theorem Past.cell {w : World} {b o : Nat} {u : Value} (hb : b < w.heap.size) (h : w.cell? ⟨b, o, none⟩ = some u) (p : Past w) : p.v.cell? ⟨b, o, none⟩ = some u := (p.h.cell (p := ⟨b, o, none⟩) hb).trans h
end Go.Proofs.Ytkkomaohcijhnaa
