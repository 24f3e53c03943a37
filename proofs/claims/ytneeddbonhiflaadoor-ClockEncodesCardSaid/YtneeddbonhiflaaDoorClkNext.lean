/-
  Contract of the closure that reads the digits of the next field.
-/
import Derived.Test.YtneeddbonhiflaaDoorClNum
import Derived.Test.YtneeddbonhiflaaDoorAppend
import Derived.Test.YtneeddbonhiflaaDoorSlices
import Derived.LoopTactic
namespace Go.Proofs.YtneeddbonhiflaaDoor
open Go.RowKit

def isDg (x : UInt8) : Bool := decide (48 ≤ x.toNat) && decide (x.toNat ≤ 57)
/-- the number that the closure reads, of octets that are no digits, too -/
def numP (l : List UInt8) : Int := l.foldl (fun n x => n * 10 + x.toNat - 48) 0
theorem numP_snoc (l : List UInt8) (x : UInt8) : numP (l ++ [x]) = numP l * 10 + x.toNat - 48 := by unfold numP; rw [List.foldl_append]; rfl
theorem numP_len : ∀ (n : Nat) (l : List UInt8), l.length = n → 23 - 23 * 10 ^ n ≤ numP l ∧ numP l ≤ 23 * 10 ^ n - 23
  | 0, l, h => by
    have := List.eq_nil_of_length_eq_zero h
    subst this
    decide
  | n + 1, l, h => by
    have hne : l ≠ [] := by intro e; subst e; cases h
    have e := (List.dropLast_concat_getLast hne).symm
    have hl : l.dropLast.length = n := by rw [List.length_dropLast, h]; rfl
    have ih := numP_len n l.dropLast hl
    have hb := byte_bd (l.getLast hne)
    rw [e, numP_snoc, Int.pow_succ]
    omega
theorem numP_bd {l : List UInt8} (h : l.length ≤ 4) : -300000 ≤ numP l ∧ numP l ≤ 300000 := by
  have h1 := numP_len _ l rfl
  rcases (by omega : l.length = 0 ∨ l.length = 1 ∨ l.length = 2 ∨ l.length = 3 ∨ l.length = 4) with e | e | e | e | e <;> rw [e] at h1 <;> omega
theorem numP_dg : ∀ (n : Nat) (l : List UInt8), l.length = n → l.all isDg = true → numP l = numO l
  | 0, l, h, _ => by
    have := List.eq_nil_of_length_eq_zero h
    subst this
    rfl
  | n + 1, l, h, ha => by
    have hne : l ≠ [] := by intro e; subst e; cases h
    have e := (List.dropLast_concat_getLast hne).symm
    have hl : l.dropLast.length = n := by rw [List.length_dropLast, h]; rfl
    rw [e, List.all_append, Bool.and_eq_true] at ha
    have ih := numP_dg n l.dropLast hl ha.1
    have hd : isDg (l.getLast hne) = true := by simpa using ha.2
    unfold isDg at hd
    rw [Bool.and_eq_true, decide_eq_true_eq, decide_eq_true_eq] at hd
    rw [e, numP_snoc, numO_snoc, ih]
    omega
theorem all_take {l : List UInt8} {j : Nat} (h : j < l.length) : (l.take (j + 1)).all isDg = ((l.take j).all isDg && isDg l[j]) := by
  rw [List.take_succ_eq_append_getElem h, List.all_append]
  simp
theorem numP_take {l : List UInt8} {j : Nat} (h : j < l.length) : numP (l.take (j + 1)) = numP (l.take j) * 10 + l[j].toNat - 48 := by
  rw [List.take_succ_eq_append_getElem h, numP_snoc]

/-- nothing but two blocks has changed -/
def Oth (gc ga : Nat) (w w' : World) : Prop := (∀ M, M ≤ gc → M ≤ ga → Below M w w') ∧ w.heap.size ≤ w'.heap.size ∧ ∀ i, i ≠ gc → i ≠ ga → w'.heap[i]? = w.heap[i]?
theorem Oth.refl (gc ga : Nat) (w : World) : Oth gc ga w w := ⟨fun _ _ _ => Below.refl _ _, Nat.le_refl _, fun _ _ _ => rfl⟩
theorem Oth.set_ {gc ga : Nat} {w wr : World} (h : Oth gc ga w wr) {p : Addr} (hp : p.block = gc ∨ p.block = ga) (v : Value) : Oth gc ga w (wr.setCell p v) :=
  ⟨fun M h1 h2 => (h.1 M h1 h2).setCell (p := p) (by rcases hp with e | e <;> rw [e] <;> assumption) v,
   Nat.le_trans h.2.1 (((Below.refl 0 wr).setCell (p := p) (Nat.zero_le _) v).size),
   fun i h1 h2 => (Below.heap_setCell wr p v i (by rcases hp with e | e <;> rw [e] <;> assumption)).trans (h.2.2 i h1 h2)⟩
theorem Oth.blk {gc ga g : Nat} {w wr : World} {t : TypeId} {cs : Array Value} (h : Oth gc ga w wr) (hb : Blk w g t cs) (h1 : g ≠ gc) (h2 : g ≠ ga) : Blk wr g t cs := hb.keep (h.2.2 g h1 h2)

set_option maxRecDepth 100000 in
set_option maxHeartbeats 8000000 in
theorem next_any {w : World} {M gc ga g off n c k : Nat} {l : List UInt8} {b : Bool} (hx : Bs w (some ⟨g, off, none⟩) n c l) (hc : Blk w gc 25 #[.slice (some ⟨g, off, none⟩) n c]) (ha : Blk w ga 4 #[.bool b])
    (hk0 : 0 < k) (hk : k < n) (hk4 : k ≤ 4) (hg : g < M) (h1 : M ≤ gc) (h2 : M ≤ ga) (h3 : gc ≠ ga) :
    Calls Tryd.prog 40 #[.int .i64 k, .pointer (some ⟨gc, 0, none⟩), .pointer (some ⟨ga, 0, none⟩)] w fun e w' => e = .returned (.int .i64 (numP (l.take k))) ∧ Bs w' (some ⟨g, off + k, none⟩) (n - k) (c - k) (l.drop k) ∧ Blk w' gc 25 #[.slice (some ⟨g, off + k, none⟩) (n - k) (c - k)] ∧ Blk w' ga 4 #[.bool (b && (l.take k).all isDg)] ∧ Oth gc ga w w' := by
  have HX := Lib.hid hx
  have hn := hx.2.1
  have hl := hx.len
  have hcm : c ≤ 9223372036854775807 := by have := hx.2.2.1; unfold maxLen at this; omega
  have k0 : (0 : Int) ≤ k := by omega
  have kn : (k : Int) ≤ n := by omega
  have kc : (k : Int) ≤ c := by omega
  have nc : (n : Int) ≤ c := by omega
  have hck : ¬ c = k := by omega
  have c0 : w.cell? ⟨gc, 0, none⟩ = some (.slice (some ⟨g, off, none⟩) n c) := by simpa using hc.cell 0
  have C0 := Lib.hid hc
  have A0 := Lib.hid ha
  clear hx hc ha
  have hgg : g ≠ gc := by omega
  have hga : g ≠ ga := by omega
  go_enter Tryd.func40, Tryd.ntmps40
  go_wp2_with fail
  have HX2 := Lib.hid (bs_drop HX.out (i := k) (by omega))
  rw [if_neg hck] at HX2
  go_loopw [5, 12] (fun x i wr => ∃ j : Nat, j ≤ k ∧ i = .int .i64 j ∧ x = .int .i64 (numP (l.take j)) ∧ Blk wr ga 4 #[.bool (b && (l.take j).all isDg)] ∧ Blk wr gc 25 #[.slice (some ⟨g, off, none⟩) n c] ∧ Oth gc ga w wr) (fun _ i _ => k - (intOf i).toNat)
  case atStart => exact ⟨0, Nat.zero_le _, rfl, rfl, by rw [List.take_zero, List.all_nil, Bool.and_true]; exact A0.out, C0.out, Oth.refl _ _ _⟩
  case round =>
    obtain ⟨j, hj, rfl, rfl, ha4, hc4, ho⟩ := hrel
    have A4 := Lib.hid ha4
    have C4 := Lib.hid hc4
    have O4 := Lib.hid ho
    have a0 : wr.cell? ⟨ga, 0, none⟩ = some (.bool (b && (l.take j).all isDg)) := by simpa using ha4.cell 0
    have al := ha4.lt
    have af := ha4.frozen 0
    have e0 : wr.cell? ⟨gc, 0, none⟩ = some (.slice (some ⟨g, off, none⟩) n c) := by simpa using hc4.cell 0
    have cl := hc4.lt
    have cf := hc4.frozen 0
    clear ha4 hc4 ho A0 C0 c0
    have hj0 : (0 : Int) ≤ j := by omega
    by_cases hlt : j < k
    · have hlt2 : (j : Int) < k := by omega
      have hjl : j < l.length := by omega
      have HA := Lib.hid (all_take hjl)
      have HP := Lib.hid (numP_take hjl)
      have hbd := numP_bd (l := l.take j) (by rw [List.length_take]; omega)
      have hcell := (HX.out.2.2.2 (by omega))
      obtain ⟨g', off', eg, _, hcell⟩ := hcell
      injection eg with eg
      injection eg with eg1 eg2
      subst eg1
      subst eg2
      have hxc := ((O4.out.1 M h1 h2).cell (p := ⟨g, off + j, none⟩) hg).trans (hcell j hjl)
      clear hcell
      obtain ⟨x, hxx⟩ : ∃ x, l[j] = x := ⟨_, rfl⟩
      rw [hxx] at HA HP hxc
      have hxb := byte_bd x
      obtain ⟨N, hN⟩ : ∃ N, numP (l.take j) = N := ⟨_, rfl⟩
      rw [hN] at HP hbd ⊢
      obtain ⟨D, hD⟩ : ∃ D, (l.take j).all isDg = D := ⟨_, rfl⟩
      rw [hD] at HA A4 a0
      clear hN hxx hD
      have t1 : IntKind.i64.wrap (N * 10) = N * 10 := wr_num (by omega)
      have t2 : IntKind.i64.wrap (x.toNat : Int) = x.toNat := wr_num (by omega)
      have t3 : IntKind.i64.wrap (N * 10 + x.toNat) = N * 10 + x.toNat := wr_num (by omega)
      have t4 : IntKind.i64.wrap (N * 10 + x.toNat - 48) = N * 10 + x.toNat - 48 := wr_num (by omega)
      have A5 : ∀ u : Bool, Hid (Blk (wr.setCell ⟨ga, 0, none⟩ (.bool u)) ga 4 #[.bool u]) := fun u => by
        have := A4.out.set_ 0 (.bool u)
        rw [Hid]
        simpa using this
      have C5 := Lib.hid (fun u : Value => C4.out.far (p := ⟨ga, 0, none⟩) h3 u)
      have O5 := Lib.hid (fun u : Value => O4.out.set_ (p := ⟨ga, 0, none⟩) (.inr rfl) u)
      rcases hb : (b && D) with _ | _
      · rw [hb] at a0
        have hr : (b && (D && isDg x)) = false := by rw [← Bool.and_assoc, hb, Bool.false_and]
        clear hb
        go_wp2_with fail
        exact ⟨⟨j + 1, by omega, by go_num, by rw [HP.out], by rw [HA.out, hr]; exact (A5 _).out, C5.out _, O5.out _⟩, by simp [intOf]; omega⟩
      · rw [hb] at a0
        rcases h48 : decide (48 ≤ (x.toNat : Int)) with _ | _
        · have hd : isDg x = false := by
            have := of_decide_eq_false h48
            unfold isDg
            rw [decide_eq_false (by omega), Bool.false_and]
          have hr : (b && (D && isDg x)) = false := by rw [← Bool.and_assoc, hb, hd]; rfl
          clear hb hd
          go_wp2_with fail
          exact ⟨⟨j + 1, by omega, by go_num, by rw [HP.out], by rw [HA.out, hr]; exact (A5 _).out, C5.out _, O5.out _⟩, by simp [intOf]; omega⟩
        · rcases h57 : decide ((x.toNat : Int) ≤ 57) with _ | _
          · have hd : isDg x = false := by
              have := of_decide_eq_false h57
              unfold isDg
              rw [decide_eq_false (p := x.toNat ≤ 57) (by omega), Bool.and_false]
            have hr : (b && (D && isDg x)) = false := by rw [← Bool.and_assoc, hb, hd]; rfl
            clear hb hd
            go_wp2_with fail
            exact ⟨⟨j + 1, by omega, by go_num, by rw [HP.out], by rw [HA.out, hr]; exact (A5 _).out, C5.out _, O5.out _⟩, by simp [intOf]; omega⟩
          · have hd : isDg x = true := by
              have := of_decide_eq_true h48
              have := of_decide_eq_true h57
              unfold isDg
              rw [decide_eq_true (by omega), decide_eq_true (by omega)]
              rfl
            have hr : (b && (D && isDg x)) = true := by rw [← Bool.and_assoc, hb, hd]; rfl
            clear hb hd
            go_wp2_with fail
            exact ⟨⟨j + 1, by omega, by go_num, by rw [HP.out], by rw [HA.out, hr]; exact (A5 _).out, C5.out _, O5.out _⟩, by simp [intOf]; omega⟩
    · obtain rfl : j = k := by omega
      have hlt2 : ¬ (j : Int) < j := by omega
      have C5 : Hid (Blk (wr.setCell ⟨gc, 0, none⟩ (.slice (some ⟨g, off + j, none⟩) (n - j) (c - j))) gc 25 #[.slice (some ⟨g, off + j, none⟩) (n - j) (c - j)]) := by
        have := C4.out.set_ 0 (.slice (some ⟨g, off + j, none⟩) (n - j) (c - j))
        rw [Hid]
        simpa using this
      have A5 := Lib.hid (A4.out.far (p := ⟨gc, 0, none⟩) (Ne.symm h3) (.slice (some ⟨g, off + j, none⟩) (n - j) (c - j)))
      have O5 := Lib.hid (O4.out.set_ (p := ⟨gc, 0, none⟩) (.inl rfl) (.slice (some ⟨g, off + j, none⟩) (n - j) (c - j)))
      have X5 := Lib.hid (bs_belowB HX2.out (O5.out.1 M h1 h2) (fun x hx => by injection hx with hx; subst hx; exact hg))
      go_wp2_with fail
      go_ret
      exact ⟨rfl, X5.out, C5.out, A5.out, O5.out⟩
end Go.Proofs.YtneeddbonhiflaaDoor
