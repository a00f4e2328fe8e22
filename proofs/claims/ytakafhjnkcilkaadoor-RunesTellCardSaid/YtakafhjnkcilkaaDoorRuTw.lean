/-
  The walk of the law RunesTell.
-/
import Derived.Test.YtakafhjnkcilkaaDoorRuR
namespace Go.Proofs.YtakafhjnkcilkaaDoor
open Go.RowKit

set_option maxHeartbeats 4000000 in
set_option maxRecDepth 100000 in
theorem runesTell_walk (c : Int) (w : World) (h1 : -2147483648 ≤ c) (h2 : c ≤ 2147483647) (hT : Tab w.heap.size w) :
    Calls Tryd.prog 6 #[.int .i32 c] w (Yes w) := by
  have CA := awake_is
  have HT := Lib.hid hT
  clear hT
  by_cases c1 : c = 9 ∨ c = 10 ∨ c = 32
  · have hw : Ru.whiB c = true := by unfold Ru.whiB; exact decide_eq_true c1
    have hd : Ru.digB c = false := by unfold Ru.digB; exact decide_eq_false (by omega)
    generalize hi : Ru.isB c = i at *
    generalize hb : Ru.begB c = b at *
    generalize hi2 : Ru.witB c = t at *
    generalize hx : Ru.hexV c = x at *
    rcases c1 with rfl | rfl | rfl
    all_goals
      go_enter Tryd.func6, Tryd.ntmps6
      go_wp2_with (first | (go_at_call 18; ((with_reducible refine (is_any _ _).mono ?_); rintro e w' ⟨rfl, rfl⟩)) | (go_at_call 17; ((with_reducible refine (ris_any _ _).mono ?_); rintro e w' ⟨rfl, rfl⟩)) | (go_at_call 19; ((with_reducible refine (begins_any _ _).mono ?_); rintro e w' ⟨rfl, rfl⟩)) | (go_at_call 20; ((with_reducible refine (rbegins_any _ _).mono ?_); rintro e w' ⟨rfl, rfl⟩)) | (go_at_call 21; ((with_reducible refine (within_any _ _).mono ?_); rintro e w' ⟨rfl, rfl⟩)) | (go_at_call 22; ((with_reducible refine (rwithin_any _ _).mono ?_); rintro e w' ⟨rfl, rfl⟩)) | (go_at_call 23; ((with_reducible refine (hex_any _ _).mono ?_); rintro e w' ⟨rfl, rfl⟩)) | (go_at_call 24; ((with_reducible refine (rhex_any _ _).mono ?_); rintro e w' ⟨rfl, rfl⟩)) | (go_at_call 25; ((with_reducible refine (white_any _ _).mono ?_); rintro e w' ⟨rfl, rfl⟩)) | (go_at_call 26; ((with_reducible refine (digit_any _ _).mono ?_); rintro e w' ⟨rfl, rfl⟩)) | (go_at_call 10; ((with_reducible refine (CA.out _ HT.out).mono ?_); rintro e w5 ⟨rfl, b5⟩)))
      go_ret
      exact ⟨rfl, b5⟩
  · have hw : Ru.whiB c = false := by unfold Ru.whiB; exact decide_eq_false c1
    have e1 := Ru.eq_f (fun h => c1 (Or.inl h))
    have e2 := Ru.eq_f (fun h => c1 (Or.inr (Or.inl h)))
    have e3 := Ru.eq_f (fun h => c1 (Or.inr (Or.inr h)))
    clear c1
    by_cases d1 : 48 ≤ c
    · by_cases d2 : c ≤ 57
      · have hd : Ru.digB c = true := by unfold Ru.digB; exact decide_eq_true ⟨d1, d2⟩
        go_enter Tryd.func6, Tryd.ntmps6
        go_wp2_with (first | (go_at_call 18; ((with_reducible refine (is_any _ _).mono ?_); rintro e w' ⟨rfl, rfl⟩)) | (go_at_call 17; ((with_reducible refine (ris_any _ _).mono ?_); rintro e w' ⟨rfl, rfl⟩)) | (go_at_call 19; ((with_reducible refine (begins_any _ _).mono ?_); rintro e w' ⟨rfl, rfl⟩)) | (go_at_call 20; ((with_reducible refine (rbegins_any _ _).mono ?_); rintro e w' ⟨rfl, rfl⟩)) | (go_at_call 21; ((with_reducible refine (within_any _ _).mono ?_); rintro e w' ⟨rfl, rfl⟩)) | (go_at_call 22; ((with_reducible refine (rwithin_any _ _).mono ?_); rintro e w' ⟨rfl, rfl⟩)) | (go_at_call 23; ((with_reducible refine (hex_any _ _).mono ?_); rintro e w' ⟨rfl, rfl⟩)) | (go_at_call 24; ((with_reducible refine (rhex_any _ _).mono ?_); rintro e w' ⟨rfl, rfl⟩)) | (go_at_call 25; ((with_reducible refine (white_any _ _).mono ?_); rintro e w' ⟨rfl, rfl⟩)) | (go_at_call 26; ((with_reducible refine (digit_any _ _).mono ?_); rintro e w' ⟨rfl, rfl⟩)) | (go_at_call 10; ((with_reducible refine (CA.out _ HT.out).mono ?_); rintro e w5 ⟨rfl, b5⟩)))
        go_ret
        exact ⟨rfl, b5⟩
      · have hd : Ru.digB c = false := by unfold Ru.digB; exact decide_eq_false (fun h => d2 h.2)
        go_enter Tryd.func6, Tryd.ntmps6
        go_wp2_with (first | (go_at_call 18; ((with_reducible refine (is_any _ _).mono ?_); rintro e w' ⟨rfl, rfl⟩)) | (go_at_call 17; ((with_reducible refine (ris_any _ _).mono ?_); rintro e w' ⟨rfl, rfl⟩)) | (go_at_call 19; ((with_reducible refine (begins_any _ _).mono ?_); rintro e w' ⟨rfl, rfl⟩)) | (go_at_call 20; ((with_reducible refine (rbegins_any _ _).mono ?_); rintro e w' ⟨rfl, rfl⟩)) | (go_at_call 21; ((with_reducible refine (within_any _ _).mono ?_); rintro e w' ⟨rfl, rfl⟩)) | (go_at_call 22; ((with_reducible refine (rwithin_any _ _).mono ?_); rintro e w' ⟨rfl, rfl⟩)) | (go_at_call 23; ((with_reducible refine (hex_any _ _).mono ?_); rintro e w' ⟨rfl, rfl⟩)) | (go_at_call 24; ((with_reducible refine (rhex_any _ _).mono ?_); rintro e w' ⟨rfl, rfl⟩)) | (go_at_call 25; ((with_reducible refine (white_any _ _).mono ?_); rintro e w' ⟨rfl, rfl⟩)) | (go_at_call 26; ((with_reducible refine (digit_any _ _).mono ?_); rintro e w' ⟨rfl, rfl⟩)) | (go_at_call 10; ((with_reducible refine (CA.out _ HT.out).mono ?_); rintro e w5 ⟨rfl, b5⟩)))
        go_ret
        exact ⟨ret_bool (by simp; omega), b5⟩
    · have hd : Ru.digB c = false := by unfold Ru.digB; exact decide_eq_false (fun h => d1 h.1)
      go_enter Tryd.func6, Tryd.ntmps6
      go_wp2_with (first | (go_at_call 18; ((with_reducible refine (is_any _ _).mono ?_); rintro e w' ⟨rfl, rfl⟩)) | (go_at_call 17; ((with_reducible refine (ris_any _ _).mono ?_); rintro e w' ⟨rfl, rfl⟩)) | (go_at_call 19; ((with_reducible refine (begins_any _ _).mono ?_); rintro e w' ⟨rfl, rfl⟩)) | (go_at_call 20; ((with_reducible refine (rbegins_any _ _).mono ?_); rintro e w' ⟨rfl, rfl⟩)) | (go_at_call 21; ((with_reducible refine (within_any _ _).mono ?_); rintro e w' ⟨rfl, rfl⟩)) | (go_at_call 22; ((with_reducible refine (rwithin_any _ _).mono ?_); rintro e w' ⟨rfl, rfl⟩)) | (go_at_call 23; ((with_reducible refine (hex_any _ _).mono ?_); rintro e w' ⟨rfl, rfl⟩)) | (go_at_call 24; ((with_reducible refine (rhex_any _ _).mono ?_); rintro e w' ⟨rfl, rfl⟩)) | (go_at_call 25; ((with_reducible refine (white_any _ _).mono ?_); rintro e w' ⟨rfl, rfl⟩)) | (go_at_call 26; ((with_reducible refine (digit_any _ _).mono ?_); rintro e w' ⟨rfl, rfl⟩)) | (go_at_call 10; ((with_reducible refine (CA.out _ HT.out).mono ?_); rintro e w5 ⟨rfl, b5⟩)))
      go_ret
      exact ⟨rfl, b5⟩
end Go.Proofs.YtakafhjnkcilkaaDoor
