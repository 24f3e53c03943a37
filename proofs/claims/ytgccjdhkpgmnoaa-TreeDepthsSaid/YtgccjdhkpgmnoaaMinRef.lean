/-
  Contract of the reference implementation's Minimal.
-/
import Derived.Test.YtgccjdhkpgmnoaaMin
namespace Go.Proofs.Ytgccjdhkpgmnoaa
open Go.RowKit

set_option maxHeartbeats 1000000 in
theorem ref_minimal_any (n : Nat) : ∀ (v : Int) (w : World), Hid (v = n) → Hid (n < 18446744073709551616) →
    Calls Try.prog 51 #[.int .u64 v] w fun e w' => ∃ a c, e = .returned (.slice a (digits n).length c) ∧ Own w' w.heap.size 5 a (digits n).length c (digits n) ∧ Below w.heap.size w w' := by
  induction n using Nat.strongRecOn with
  | _ n ih =>
  intro v w hv hn
  obtain rfl := hv.out
  clear hv
  by_cases h : n < 256
  · have HD := Lib.hid (digits_small h)
    go_enter Try.func51, Try.ntmps51
    generalize hK : (256 : Int) = K
    have HK := Lib.hid hK
    have hnK : (n : Int) < K := by omega
    clear hK h
    go_wp2
    go_ret
    rw [HD.out]
    have e : cellsOf [UInt8.ofNat n] = #[Value.int .u8 ((n : Int) % 256)].toList := by simp [cellsOf]
    refine ⟨_, 1, rfl, ?_, (Below.refl _ _).alloc (Nat.le_refl _) _⟩
    show World.ownsRow _ _ _ _ _ _ _
    rw [e]
    exact World.ownsRow_lit w _ 1 (Nat.le_refl _) (by decide) rfl
  · have HD := Lib.hid (digits_big (by omega) hn.out)
    obtain ⟨hd1, hd8⟩ := ndig_bd (n := n / 256) (by have := hn.out; omega)
    rw [← digits_len] at hd1 hd8
    obtain ⟨i0, hi, hz0, hz1, hz2⟩ := info_parts info_u8
    go_enter Try.func51, Try.ntmps51
    generalize hK : (256 : Int) = K
    have HK := Lib.hid hK
    have hnK : ¬ (n : Int) < K := by omega
    have hK1 : 1 ≤ K := by omega
    have HI := Lib.hid (fun w => ih (n / 256) (by omega) (IntKind.u64.wrap ((n : Int) / K)) w (by show _ = _; rw [← hK, IntKind.wrap_u64]; have := hn.out; omega) (by show _ < _; have := hn.out; omega))
    clear hK h ih
    generalize digits (n / 256) = l at *
    go_wp2_with (first | (at_builtin; go_must (refine wpList_append_own _ rfl _ _ 22 rfl w.heap.size 5 i0 (.int .u8 0) 1 1 Try.underlying22 hi hz0 hz1 hz2 rfl (by decide) _ _ (cellsOf l) rfl (World.ownsRow.alloc ho1 _) ⟨w1.heap.size, 0, none⟩ 1 1 [.int .u8 ((n : Int) % K % 256)] rfl rfl ?c1 ?c2 ?c3 ?c4 ?c5 ?_)) | (go_at_call 51; go_must (refine (HI.out _).mono ?_); rintro e w1 ⟨a1, c1, rfl, ho1, hb1⟩))
    case c1 => exact news1 _ _ _
    case c2 => intro u hu; simp only [List.mem_singleton] at hu; subst hu; rfl
    case c3 => unfold maxLen; omega
    case c4 => omega
    case c5 => have := hb1.size; simp; omega
    intro v' w2 hown hgrow _
    have HO := Lib.hid hown
    have HG := Lib.hid hgrow
    clear hown hgrow
    go_wp2
    go_ret
    obtain ⟨a', c', rfl, ho⟩ := Own.append_form (x := UInt8.ofNat n) HO.out (by rw [← HK.out, ← byte_wrap]; omega)
    rw [HD.out]
    have hlen : (l ++ [UInt8.ofNat n]).length = l.length + 1 := by simp
    rw [hlen]
    refine ⟨a', c', rfl, ho, (hb1.alloc hb1.size _).grown HG.out (by have := hb1.size; simp; omega) ?_⟩
    intro k hk
    exact (ho1.lt k hk).1
end Go.Proofs.Ytgccjdhkpgmnoaa
