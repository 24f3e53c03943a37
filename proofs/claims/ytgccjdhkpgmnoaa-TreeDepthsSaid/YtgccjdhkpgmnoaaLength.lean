/-
  Contracts of Length, of the program and of the reference.
-/
import Derived.Test.YtgccjdhkpgmnoaaMinRef
import Derived.Test.YtgccjdhkpgmnoaaAppend
import Derived.Test.YtgccjdhkpgmnoaaLenMath
import Derived.Test.YtgccjdhkpgmnoaaLit
namespace Go.Proofs.Ytgccjdhkpgmnoaa
open Go.RowKit

theorem length_bad {n : Int} (h : n < 0 ∨ 2147483647 < n) (w : World) :
    Calls Try.prog 41 #[.int .i64 n] w fun e w' => e = .returned (.tuple #[.slice none 0 0, .int .i64 9]) ∧ w = w' := by
  rcases h with h | h
  · go_enter Try.func41, Try.ntmps41
    go_wp2
    go_ret2
    exact ⟨rfl, rfl⟩
  · go_enter Try.func41, Try.ntmps41
    go_wp2
    go_ret2
    exact ⟨rfl, rfl⟩
set_option maxRecDepth 100000 in
theorem length_ok {n : Nat} (h : n ≤ 2147483647) (w : World) :
    Calls Try.prog 41 #[.int .i64 n] w fun e w' => ∃ a c, e = .returned (.tuple #[.slice a (lenOct n).length c, .int .i64 0]) ∧ Own w' w.heap.size 5 a (lenOct n).length c (lenOct n) ∧ Below w.heap.size w w' := by
  have HM := Lib.hid (fun w => minimal_any (n := n) (by show _ < _; omega) w)
  by_cases hs : n < 128
  · rw [lenOct_short hs]
    have hs' : (n : Int) < 128 := by omega
    have hn0 : (0 : Int) ≤ n := by omega
    have HH := Lib.hid h
    clear hs h
    go_enter Try.func41, Try.ntmps41
    generalize hK : (2147483647 : Int) = K
    have hnK : (n : Int) ≤ K := by have := HH.out; omega
    clear hK
    go_wp2_with fail
    refine (HM.out _).mono ?_
    rintro e w' ⟨a, c, rfl, ho, hb⟩
    have HO := Lib.hid ho
    have HB := Lib.hid hb
    clear ho hb
    go_wp2
    go_ret2
    exact ⟨a, c, rfl, HO.out, HB.out⟩
  · have hl := Lib.hid (lenOct_long hs)
    have hs' : ¬ (n : Int) < 128 := by omega
    have hn0 : (0 : Int) ≤ n := by omega
    have hw := u64_wrap (m := n) (by omega)
    have hd := ndig_bd (n := n) (by omega)
    have HH := Lib.hid h
    clear hs h
    rw [hl.out, List.length_cons]
    rw [← digits_len] at hl hd ⊢
    clear hl
    generalize digits n = l at *
    go_enter Try.func41, Try.ntmps41
    generalize hK : (2147483647 : Int) = K
    have hnK : (n : Int) ≤ K := by have := HH.out; omega
    clear hK
    go_wp2_with fail
    refine (HM.out _).mono ?_
    rintro e w' ⟨a, c, rfl, ho, hb⟩
    have HO := Lib.hid ho
    have HB := Lib.hid hb
    clear ho hb
    have hl2 := Lib.hid (show #[Value.int .u8 (128 + l.length)].toList = cellsOf [lenHead l.length] by simp only [cellsOf, List.map_cons, List.map_nil, lenHead_val hd.2])
    have hbw := HB.out.size
    obtain ⟨i0, hi, hz0, hz1, hz2⟩ := info_parts info_u8
    go_wp2_with (at_builtin; go_must (refine wpList_app _ rfl _ _ 22 rfl w.heap.size 5 i0 Try.underlying22 hi hz0 hz1 hz2 (some ⟨w'.heap.size, 0, none⟩) 1 1 [lenHead l.length] rfl (own_lit _ _ _ 1 hl2.out rfl (by decide) hbw) a l.length c l rfl (HO.out.bs.alloc _) ?c1 ?c2 ?_))
    case c1 => omega
    case c2 => simp; omega
    intro a' c' w2 ho2 hg2
    have O2 := Lib.hid ho2
    have B2 := Lib.hid ((bal HB.out _).grown hg2 (by simp; omega) (fun k hk => by simp [Value.ownBlock] at hk; omega))
    clear ho2 hg2
    go_wp2
    go_ret2
    exact ⟨a', c', by rw [Nat.add_comm l.length 1]; rfl, by rw [Nat.add_comm l.length 1]; exact O2.out, B2.out⟩
theorem ref_length_bad {n : Int} (h : n < 0 ∨ 2147483647 < n) (w : World) :
    Calls Try.prog 44 #[.int .i64 n] w fun e w' => e = .returned (.tuple #[.slice none 0 0, .int .i64 9]) ∧ w = w' := by
  rcases h with h | h
  · go_enter Try.func44, Try.ntmps44
    go_wp2
    go_ret2
    exact ⟨rfl, rfl⟩
  · go_enter Try.func44, Try.ntmps44
    go_wp2
    go_ret2
    exact ⟨rfl, rfl⟩
set_option maxRecDepth 100000 in
theorem ref_length_ok {n : Nat} (h : n ≤ 2147483647) (w : World) :
    Calls Try.prog 44 #[.int .i64 n] w fun e w' => ∃ a c, e = .returned (.tuple #[.slice a (lenOct n).length c, .int .i64 0]) ∧ Own w' w.heap.size 5 a (lenOct n).length c (lenOct n) ∧ Below w.heap.size w w' := by
  have HM := Lib.hid (fun w => ref_minimal_any n n w rfl (by show _ < _; omega))
  by_cases hs : n < 128
  · rw [lenOct_short hs]
    have hs' : (n : Int) < 128 := by omega
    have hn0 : (0 : Int) ≤ n := by omega
    have HH := Lib.hid h
    clear hs h
    go_enter Try.func44, Try.ntmps44
    generalize hK : (2147483647 : Int) = K
    have hnK : (n : Int) ≤ K := by have := HH.out; omega
    clear hK
    go_wp2_with fail
    refine (HM.out _).mono ?_
    rintro e w' ⟨a, c, rfl, ho, hb⟩
    have HO := Lib.hid ho
    have HB := Lib.hid hb
    clear ho hb
    go_wp2
    go_ret2
    exact ⟨a, c, rfl, HO.out, HB.out⟩
  · have hl := Lib.hid (lenOct_long hs)
    have hs' : ¬ (n : Int) < 128 := by omega
    have hn0 : (0 : Int) ≤ n := by omega
    have hw := u64_wrap (m := n) (by omega)
    have hd := ndig_bd (n := n) (by omega)
    have HH := Lib.hid h
    clear hs h
    rw [hl.out, List.length_cons]
    rw [← digits_len] at hl hd ⊢
    clear hl
    generalize digits n = l at *
    go_enter Try.func44, Try.ntmps44
    generalize hK : (2147483647 : Int) = K
    have hnK : (n : Int) ≤ K := by have := HH.out; omega
    clear hK
    go_wp2_with fail
    refine (HM.out _).mono ?_
    rintro e w' ⟨a, c, rfl, ho, hb⟩
    have HO := Lib.hid ho
    have HB := Lib.hid hb
    clear ho hb
    have hl2 := Lib.hid (show #[Value.int .u8 (128 + l.length)].toList = cellsOf [lenHead l.length] by simp only [cellsOf, List.map_cons, List.map_nil, lenHead_val hd.2])
    have hbw := HB.out.size
    obtain ⟨i0, hi, hz0, hz1, hz2⟩ := info_parts info_u8
    go_wp2_with (at_builtin; go_must (refine wpList_app _ rfl _ _ 22 rfl w.heap.size 5 i0 Try.underlying22 hi hz0 hz1 hz2 (some ⟨w'.heap.size, 0, none⟩) 1 1 [lenHead l.length] rfl (own_lit _ _ _ 1 hl2.out rfl (by decide) hbw) a l.length c l rfl (HO.out.bs.alloc _) ?c1 ?c2 ?_))
    case c1 => omega
    case c2 => simp; omega
    intro a' c' w2 ho2 hg2
    have O2 := Lib.hid ho2
    have B2 := Lib.hid ((bal HB.out _).grown hg2 (by simp; omega) (fun k hk => by simp [Value.ownBlock] at hk; omega))
    clear ho2 hg2
    go_wp2
    go_ret2
    exact ⟨a', c', by rw [Nat.add_comm l.length 1]; rfl, by rw [Nat.add_comm l.length 1]; exact O2.out, B2.out⟩
end Go.Proofs.Ytgccjdhkpgmnoaa
