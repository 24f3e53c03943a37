/-
  Plain: contents octets read a character at a time, in numbers of 32 bits with a sign.
-/
import Derived.Test.YtkmpmphabohkkaaDoorChRuneW
import Derived.Test.YtkmpmphabohkkaaDoorChOcts
namespace Go.Proofs.YtkmpmphabohkkaaDoor

/-- the number of the j-th piece of W octets -/
def nb (l : List UInt8) (W j : Nat) : Nat := chI ((l.drop (j * W)).take W)
/-- whether such a number is a character of the kind, for the program -/
def okI (k : Int) (x : Nat) : Bool := hasI k (IntKind.i32.wrap x)
theorem chunks_range {W : Nat} (hW : 0 < W) : ∀ (m f : Nat) (l : List UInt8), l.length = m * W → m ≤ f → chunks f W l = (List.range m).map (nb l W)
  | 0, f, l, hl, _ => by
    obtain rfl : l = [] := List.length_eq_zero_iff.1 (by omega)
    cases f with
    | zero => rfl
    | succ f =>
      unfold chunks
      rw [if_pos (.inl (by simpa using hW))]
      rfl
  | m + 1, f, l, hl, hf => by
    obtain ⟨g, rfl⟩ : ∃ g, f = g + 1 := ⟨f - 1, by omega⟩
    have hm : (m + 1) * W = m * W + W := Nat.succ_mul m W
    unfold chunks
    rw [if_neg (by omega), chunks_range hW m g (l.drop W) (by rw [List.length_drop]; omega) (by omega), List.range_succ_eq_map, List.map_cons, List.map_map]
    have e0 : nb l W 0 = (l.take W).foldl (fun x b => x * 256 + b.toNat) 0 := by unfold nb chI; rw [Nat.zero_mul, List.drop_zero]
    rw [e0]
    congr 1
    refine List.map_congr_left fun j _ => ?_
    show nb (l.drop W) W j = nb l W (j + 1)
    unfold nb
    rw [List.drop_drop, Nat.succ_mul, Nat.add_comm W]
theorem chI_acc : ∀ (l : List UInt8) (a : Nat), l.foldl (fun x b => x * 256 + b.toNat) a < (a + 1) * 256 ^ l.length
  | [], a => by show a < (a + 1) * 1; omega
  | b :: l, a => by
    rw [List.foldl_cons, List.length_cons, Nat.pow_succ]
    have hb := b.toNat_lt
    have h1 := chI_acc l (a * 256 + b.toNat)
    have h2 : (a * 256 + b.toNat + 1) * 256 ^ l.length ≤ ((a + 1) * 256) * 256 ^ l.length := Nat.mul_le_mul_right _ (by omega)
    have h3 : (a + 1) * (256 ^ l.length * 256) = ((a + 1) * 256) * 256 ^ l.length := by rw [Nat.mul_comm (256 ^ l.length) 256, ← Nat.mul_assoc]
    omega
theorem chI_lt (l : List UInt8) : chI l < 256 ^ l.length := by
  have := chI_acc l 0
  unfold chI
  omega
theorem has_scal {k : Int} {x : Nat} (h : hasK k x = true) : scal x = true := by
  unfold hasK at h
  split at h
  · exact h
  split at h
  · rw [Bool.and_eq_true] at h; exact h.1
  split at h
  · rw [decide_eq_true_eq] at h; exact scal_true.2 (by omega)
  split at h
  · rw [decide_eq_true_eq] at h; exact scal_true.2 (by omega)
  split at h
  · rw [decide_eq_true_eq] at h; exact scal_true.2 (by omega)
  split at h
  · have := prnt_lt h; exact scal_true.2 (by omega)
  · cases h
theorem ok_has {k : Int} {x : Nat} (h : okI k x = true) (hx : x < 4294967296) : hasK k x = true ∧ IntKind.i32.wrap x = x := by
  unfold okI hasI at h
  rw [Bool.and_eq_true, decide_eq_true_eq] at h
  have e : IntKind.i32.wrap (x : Int) = x := by
    have h1 := h.1
    rw [IntKind.wrap_i32] at h1 ⊢
    omega
  rw [e] at h
  exact ⟨h.2, e⟩
theorem ok_of {k : Int} {x : Nat} (h : hasK k x = true) : okI k x = true := by
  have hb := (has_fits h).2.2.1
  have e : IntKind.i32.wrap (x : Int) = x := by rw [IntKind.wrap_i32]; omega
  unfold okI
  rw [e, hasI_nat]
  exact h
theorem oct_ch {W : Nat} (hW : W = 1 ∨ W = 2 ∨ W = 4) {c : List UInt8} (hc : c.length = W) (hx : chI c ≤ 1114111) : octW (W : Int) (chI c) = c := by
  rcases hW with rfl | rfl | rfl
  · match c, hc with
    | [a], _ =>
      have := a.toNat_lt
      have e : chI [a] = a.toNat := by show 0 * 256 + a.toNat = _; omega
      rw [e]
      show [by8 a.toNat] = [a]
      rw [by8_self a rfl]
  · match c, hc with
    | [a, b], _ =>
      have := a.toNat_lt
      have := b.toNat_lt
      have e : chI [a, b] = a.toNat * 256 + b.toNat := by show (0 * 256 + a.toNat) * 256 + b.toNat = _; omega
      rw [e]
      show [by8 ((a.toNat * 256 + b.toNat) / 256), by8 ((a.toNat * 256 + b.toNat) % 256)] = [a, b]
      rw [by8_self a (by omega), by8_self b (by omega)]
  · match c, hc with
    | [a, b, d, e], _ =>
      have := a.toNat_lt
      have := b.toNat_lt
      have := d.toNat_lt
      have := e.toNat_lt
      have e1 : chI [a, b, d, e] = ((a.toNat * 256 + b.toNat) * 256 + d.toNat) * 256 + e.toNat := by show (((0 * 256 + a.toNat) * 256 + b.toNat) * 256 + d.toNat) * 256 + e.toNat = _; omega
      rw [e1] at hx ⊢
      have ha : a = 0 := UInt8.toNat_inj.1 (by have : (0 : UInt8).toNat = 0 := rfl; omega)
      show [0, by8 ((((a.toNat * 256 + b.toNat) * 256 + d.toNat) * 256 + e.toNat) / 65536), by8 ((((a.toNat * 256 + b.toNat) * 256 + d.toNat) * 256 + e.toNat) / 256 % 256), by8 ((((a.toNat * 256 + b.toNat) * 256 + d.toNat) * 256 + e.toNat) % 256)] = [a, b, d, e]
      have ha0 : a.toNat = 0 := by rw [ha]; rfl
      rw [by8_self b (by omega), by8_self d (by omega), by8_self e (by omega), ha]
theorem oct_pieces {W : Nat} (hW : W = 1 ∨ W = 2 ∨ W = 4) : ∀ (m : Nat) (l : List UInt8), l.length = m * W → (∀ j, j < m → nb l W j ≤ 1114111) → octL (W : Int) ((List.range m).map (nb l W)) = l
  | 0, l, hl, _ => by
    obtain rfl : l = [] := List.length_eq_zero_iff.1 (by omega)
    rfl
  | m + 1, l, hl, hx => by
    have hm : (m + 1) * W = m * W + W := Nat.succ_mul m W
    rw [List.range_succ_eq_map, List.map_cons, List.map_map, octL_cons]
    have e1 : (List.range m).map (nb l W ∘ Nat.succ) = (List.range m).map (nb (l.drop W) W) := List.map_congr_left fun j _ => by
      show nb l W (j + 1) = nb (l.drop W) W j
      unfold nb
      rw [List.drop_drop, Nat.succ_mul, Nat.add_comm W]
    have h2 : ∀ j, j < m → nb (l.drop W) W j ≤ 1114111 := fun j hj => by
      have := hx (j + 1) (by omega)
      unfold nb at this ⊢
      rw [List.drop_drop, Nat.add_comm W, ← Nat.succ_mul]
      exact this
    rw [e1, oct_pieces hW m (l.drop W) (by rw [List.length_drop]; omega) h2]
    have h0 := hx 0 (by omega)
    unfold nb at h0 ⊢
    rw [Nat.zero_mul, List.drop_zero] at h0 ⊢
    rw [oct_ch hW (by rw [List.length_take]; omega) h0, List.take_append_drop]
theorem nb_lt {l : List UInt8} {W j : Nat} (hW : W = 1 ∨ W = 2 ∨ W = 4) : nb l W j < 4294967296 := by
  have h := chI_lt ((l.drop (j * W)).take W)
  have h2 : ((l.drop (j * W)).take W).length ≤ 4 := by rw [List.length_take]; omega
  unfold nb
  exact Nat.lt_of_lt_of_le h (Nat.pow_le_pow_right (by omega) h2)
theorem dec_yes {k : Int} {W m : Nat} {l : List UInt8} (hW : W = 1 ∨ W = 2 ∨ W = 4) (hk : widK k = W) (hl : l.length = m * W) (hok : ((List.range m).map (nb l W)).all (okI k) = true) : decT k l = some (encU ((List.range m).map (nb l W))) := by
  have hall : ∀ x ∈ (List.range m).map (nb l W), hasK k x = true := fun x hx => by
    obtain ⟨j, _, rfl⟩ := List.mem_map.1 hx
    exact (ok_has (List.all_eq_true.1 hok _ hx) (nb_lt hW)).1
  have h1 : ((List.range m).map (nb l W)).all (hasK k) = true := List.all_eq_true.2 hall
  have h2 : ((List.range m).map (nb l W)).all scal = true := List.all_eq_true.2 fun x hx => has_scal (hall x hx)
  have hv := vT_of (by omega : 0 ≤ widK k) h1 h2
  have hc : candU (widK k) l = encU ((List.range m).map (nb l W)) := by
    unfold candU
    rw [hk, if_neg (by omega), Int.toNat_natCast, chunks_range (by omega) m l.length l hl (by rw [hl]; exact Nat.le_mul_of_pos_right m (by omega))]
  have ho : octL (W : Int) ((List.range m).map (nb l W)) = l := oct_pieces hW m l hl fun j hj => (has_fits (hall _ (List.mem_map.2 ⟨j, List.mem_range.2 hj, rfl⟩))).2.2.1
  unfold decT
  rw [hc, if_pos ⟨by omega, hv.1, by rw [(te_yes hv.1).1, hv.2, hk, ho]⟩]
theorem dec_ok {k : Int} {W : Nat} {l s : List UInt8} (hW : W = 1 ∨ W = 2 ∨ W = 4) (hk : widK k = W) (h : decT k l = some s) : l.length % W = 0 ∧ ∀ m, l.length = m * W → ((List.range m).map (nb l W)).all (okI k) = true := by
  obtain ⟨h1, h2, _, _⟩ := decT_some h
  obtain ⟨L, hp, hL, _, h4, _, h6⟩ := vT_some h1
  rw [(te_yes h1).1, hL, hk] at h2
  have hWi : (W : Int) = 1 ∨ (W : Int) = 2 ∨ (W : Int) = 4 := by omega
  have hlen := octL_len4 (W : Int) hWi L
  rw [h2, Int.toNat_natCast] at hlen
  refine ⟨by rw [hlen]; exact Nat.mul_mod_right W _, fun m hm => ?_⟩
  have hmL : m = L.length := by
    rw [hlen, Nat.mul_comm] at hm
    exact (Nat.eq_of_mul_eq_mul_right (by omega) hm).symm
  have hf : ∀ x ∈ L, x ≤ 1114111 ∧ ((W : Int) = 1 → x < 256) ∧ ((W : Int) = 2 → x < 65536) := fun x hx => by
    have h := has_fits (List.all_eq_true.1 h4 x hx)
    rw [hk] at h
    exact ⟨h.2.2.1, h.1, h.2.1⟩
  have hc := chunks_oct hWi L m (by omega) hf
  rw [h2, Int.toNat_natCast, chunks_range (by omega) m m l hm (Nat.le_refl _)] at hc
  rw [hc]
  exact List.all_eq_true.2 fun x hx => ok_of (List.all_eq_true.1 h4 x hx)
theorem dec_none {k : Int} {W m : Nat} {l : List UInt8} (hW : W = 1 ∨ W = 2 ∨ W = 4) (hk : widK k = W) (hl : l.length = m * W) {j : Nat} (hj : j < m) (hno : okI k (nb l W j) = false) : decT k l = none := by
  rcases hd : decT k l with _ | s
  · rfl
  · have h := (dec_ok hW hk hd).2 m hl
    have := List.all_eq_true.1 h (nb l W j) (List.mem_map.2 ⟨j, List.mem_range.2 hj, rfl⟩)
    rw [hno] at this
    cases this
theorem dec_odd {k : Int} {W : Nat} {l : List UInt8} (hW : W = 1 ∨ W = 2 ∨ W = 4) (hk : widK k = W) (hl : l.length % W ≠ 0) : decT k l = none := by
  rcases hd : decT k l with _ | s
  · rfl
  · exact absurd (dec_ok hW hk hd).1 hl
theorem dec_utf {l : List UInt8} : decT 12 l = if vT 12 l = true then some l else none := by
  have e : widK 12 = 0 := rfl
  unfold decT
  have hc : candU (widK 12) l = l := if_pos rfl
  rw [hc]
  by_cases hv : vT 12 l = true
  · obtain ⟨L, h1, h2, h3, h4, h5, h6⟩ := vT_some hv
    rw [if_pos ⟨by decide, hv, by rw [(te_yes hv).1, h2, e, octL_utf, h5]⟩, if_pos hv]
  · rw [if_neg (fun h => hv h.2.1), if_neg hv]
theorem range_split {m x : Nat} {pre post : List Nat} (h : List.range m = pre ++ x :: post) : x = pre.length ∧ x < m := by
  have h1 : (List.range m)[pre.length]? = some x := by rw [h]; simp
  rw [List.getElem?_range] at h1
  · injection h1 with h1
    have h2 := congrArg List.length h
    rw [List.length_range, List.length_append, List.length_cons] at h2
    omega
  · have h2 := congrArg List.length h
    rw [List.length_range, List.length_append, List.length_cons] at h2
    omega
end Go.Proofs.YtkmpmphabohkkaaDoor
