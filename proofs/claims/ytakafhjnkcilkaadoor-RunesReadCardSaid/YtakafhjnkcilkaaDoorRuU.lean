/-
  The walk of the reference's begins.
-/
import Derived.Test.YtakafhjnkcilkaaDoorRuT
namespace Go.Proofs.YtakafhjnkcilkaaDoor
open Go.RowKit

namespace Ru
/-- do the first k bytes begin some character's of length L? -/
def bgB (n k : Nat) (L : Int) (l : List Int) : Bool := decide (L = need (g l 0) ∧ (k : Int) ≤ mm n (g l 0) (g l 1) (g l 2) (g l 3))
end Ru

set_option maxHeartbeats 2000000 in
set_option maxRecDepth 100000 in
theorem begins_two (n k : Nat) (l : List Int) (b off cap : Nat) (w : World) (h1 : 1 ≤ k) (hkL : k ≤ 2) (hkn : k ≤ n) (hl : Ru.By l) (hp : ∀ j, j < k → w.cell? ⟨b, off + j, none⟩ = some (.int .u8 (Ru.g l j))) :
    Calls Tryd.prog 39 #[.slice (some ⟨b, off, none⟩) k cap, .int .i64 2] w fun e w' => e = .returned (.bool (Ru.bgB n k 2 l)) ∧ w = w' := by
  have hiff := Ru.bg_two n k l h1 hkL hkn
  have C := Lib.hid (span_two k l b off cap w h1 hl (by omega) hp)
  clear hp
  by_cases hs : Ru.cls 2 (Ru.g l 0) ∧ Ru.okC k l (2 - 1)
  · have hb := span_loop k 2 l (by omega) hs.1 (2 - 1) (by omega) hs.2
    have C' : Hid (Calls Tryd.prog 40 #[.slice (some ⟨b, off, none⟩) k cap, .int .i64 2] w fun e w' => e = .returned (.tuple #[.int .i64 (Ru.spLo k l (Ru.base (Ru.g l 0)) (2 - 1)), .int .i64 (Ru.spHi k l (Ru.base (Ru.g l 0)) (2 - 1))]) ∧ w = w') := Lib.hid (C.out.mono fun _ _ h => ⟨h.1 hs, h.2.2⟩)
    have hr : Ru.bgB n k 2 l = true ↔ Ru.room 2 (Ru.spLo k l (Ru.base (Ru.g l 0)) (2 - 1)) (Ru.spHi k l (Ru.base (Ru.g l 0)) (2 - 1)) := by
      unfold Ru.bgB
      rw [decide_eq_true_iff, ← hiff]
      exact ⟨fun h => h.2.2, fun h => ⟨hs.1, hs.2, h⟩⟩
    rw [Ru.room_two] at hr
    generalize Ru.spLo k l (Ru.base (Ru.g l 0)) (2 - 1) = lo at *
    generalize Ru.spHi k l (Ru.base (Ru.g l 0)) (2 - 1) = hi at *
    have HR := Lib.hid hr
    clear hr C hiff hs hl
    obtain ⟨q1, q2, q3⟩ := hb
    go_enter Tryd.func39, Tryd.ntmps39
    go_wp2_with (go_at_call 40; ((with_reducible refine (C'.out).mono ?_); rintro e w' ⟨rfl, rfl⟩))
    all_goals
      go_ret
      exact ⟨ret_bool (by rw [Bool.eq_iff_iff, HR.out]; simp only [decide_eq_true_iff]; omega), rfl⟩
  · have C' : Hid (Calls Tryd.prog 40 #[.slice (some ⟨b, off, none⟩) k cap, .int .i64 2] w fun e w' => e = .returned (.tuple #[.int .i64 (-1), .int .i64 (-1)]) ∧ w = w') := Lib.hid (C.out.mono fun _ _ h => ⟨h.2.1 hs, h.2.2⟩)
    have HR : Ru.bgB n k 2 l = false := decide_eq_false fun h => hs ⟨(hiff.2 h).1, (hiff.2 h).2.1⟩
    rw [HR]
    clear HR C hiff hs hl
    go_enter Tryd.func39, Tryd.ntmps39
    go_wp2_with (go_at_call 40; ((with_reducible refine (C'.out).mono ?_); rintro e w' ⟨rfl, rfl⟩))
    go_ret
    exact ⟨rfl, rfl⟩

set_option maxHeartbeats 2000000 in
set_option maxRecDepth 100000 in
theorem begins_three (n k : Nat) (l : List Int) (b off cap : Nat) (w : World) (h1 : 1 ≤ k) (hkL : k ≤ 3) (hkn : k ≤ n) (hl : Ru.By l) (hp : ∀ j, j < k → w.cell? ⟨b, off + j, none⟩ = some (.int .u8 (Ru.g l j))) :
    Calls Tryd.prog 39 #[.slice (some ⟨b, off, none⟩) k cap, .int .i64 3] w fun e w' => e = .returned (.bool (Ru.bgB n k 3 l)) ∧ w = w' := by
  have hiff := Ru.bg_three n k l h1 hkL hkn
  have C := Lib.hid (span_three k l b off cap w h1 hl (by omega) hp)
  clear hp
  by_cases hs : Ru.cls 3 (Ru.g l 0) ∧ Ru.okC k l (3 - 1)
  · have hb := span_loop k 3 l (by omega) hs.1 (3 - 1) (by omega) hs.2
    have C' : Hid (Calls Tryd.prog 40 #[.slice (some ⟨b, off, none⟩) k cap, .int .i64 3] w fun e w' => e = .returned (.tuple #[.int .i64 (Ru.spLo k l (Ru.base (Ru.g l 0)) (3 - 1)), .int .i64 (Ru.spHi k l (Ru.base (Ru.g l 0)) (3 - 1))]) ∧ w = w') := Lib.hid (C.out.mono fun _ _ h => ⟨h.1 hs, h.2.2⟩)
    have hr : Ru.bgB n k 3 l = true ↔ Ru.room 3 (Ru.spLo k l (Ru.base (Ru.g l 0)) (3 - 1)) (Ru.spHi k l (Ru.base (Ru.g l 0)) (3 - 1)) := by
      unfold Ru.bgB
      rw [decide_eq_true_iff, ← hiff]
      exact ⟨fun h => h.2.2, fun h => ⟨hs.1, hs.2, h⟩⟩
    rw [Ru.room_three] at hr
    generalize Ru.spLo k l (Ru.base (Ru.g l 0)) (3 - 1) = lo at *
    generalize Ru.spHi k l (Ru.base (Ru.g l 0)) (3 - 1) = hi at *
    have HR := Lib.hid hr
    clear hr C hiff hs hl
    obtain ⟨q1, q2, q3⟩ := hb
    go_enter Tryd.func39, Tryd.ntmps39
    go_wp2_with (go_at_call 40; ((with_reducible refine (C'.out).mono ?_); rintro e w' ⟨rfl, rfl⟩))
    all_goals
      go_ret
      exact ⟨ret_bool (by rw [Bool.eq_iff_iff, HR.out]; simp only [decide_eq_true_iff]; omega), rfl⟩
  · have C' : Hid (Calls Tryd.prog 40 #[.slice (some ⟨b, off, none⟩) k cap, .int .i64 3] w fun e w' => e = .returned (.tuple #[.int .i64 (-1), .int .i64 (-1)]) ∧ w = w') := Lib.hid (C.out.mono fun _ _ h => ⟨h.2.1 hs, h.2.2⟩)
    have HR : Ru.bgB n k 3 l = false := decide_eq_false fun h => hs ⟨(hiff.2 h).1, (hiff.2 h).2.1⟩
    rw [HR]
    clear HR C hiff hs hl
    go_enter Tryd.func39, Tryd.ntmps39
    go_wp2_with (go_at_call 40; ((with_reducible refine (C'.out).mono ?_); rintro e w' ⟨rfl, rfl⟩))
    go_ret
    exact ⟨rfl, rfl⟩

set_option maxHeartbeats 2000000 in
set_option maxRecDepth 100000 in
theorem begins_four (n k : Nat) (l : List Int) (b off cap : Nat) (w : World) (h1 : 1 ≤ k) (hkL : k ≤ 4) (hkn : k ≤ n) (hl : Ru.By l) (hp : ∀ j, j < k → w.cell? ⟨b, off + j, none⟩ = some (.int .u8 (Ru.g l j))) :
    Calls Tryd.prog 39 #[.slice (some ⟨b, off, none⟩) k cap, .int .i64 4] w fun e w' => e = .returned (.bool (Ru.bgB n k 4 l)) ∧ w = w' := by
  have hiff := Ru.bg_four n k l h1 hkL hkn
  have C := Lib.hid (span_four k l b off cap w h1 hl (by omega) hp)
  clear hp
  by_cases hs : Ru.cls 4 (Ru.g l 0) ∧ Ru.okC k l (4 - 1)
  · have hb := span_loop k 4 l (by omega) hs.1 (4 - 1) (by omega) hs.2
    have C' : Hid (Calls Tryd.prog 40 #[.slice (some ⟨b, off, none⟩) k cap, .int .i64 4] w fun e w' => e = .returned (.tuple #[.int .i64 (Ru.spLo k l (Ru.base (Ru.g l 0)) (4 - 1)), .int .i64 (Ru.spHi k l (Ru.base (Ru.g l 0)) (4 - 1))]) ∧ w = w') := Lib.hid (C.out.mono fun _ _ h => ⟨h.1 hs, h.2.2⟩)
    have hr : Ru.bgB n k 4 l = true ↔ Ru.room 4 (Ru.spLo k l (Ru.base (Ru.g l 0)) (4 - 1)) (Ru.spHi k l (Ru.base (Ru.g l 0)) (4 - 1)) := by
      unfold Ru.bgB
      rw [decide_eq_true_iff, ← hiff]
      exact ⟨fun h => h.2.2, fun h => ⟨hs.1, hs.2, h⟩⟩
    rw [Ru.room_four] at hr
    generalize Ru.spLo k l (Ru.base (Ru.g l 0)) (4 - 1) = lo at *
    generalize Ru.spHi k l (Ru.base (Ru.g l 0)) (4 - 1) = hi at *
    have HR := Lib.hid hr
    clear hr C hiff hs hl
    obtain ⟨q1, q2, q3⟩ := hb
    go_enter Tryd.func39, Tryd.ntmps39
    go_wp2_with (go_at_call 40; ((with_reducible refine (C'.out).mono ?_); rintro e w' ⟨rfl, rfl⟩))
    all_goals
      go_ret
      exact ⟨ret_bool (by rw [Bool.eq_iff_iff, HR.out]; simp only [decide_eq_true_iff]; omega), rfl⟩
  · have C' : Hid (Calls Tryd.prog 40 #[.slice (some ⟨b, off, none⟩) k cap, .int .i64 4] w fun e w' => e = .returned (.tuple #[.int .i64 (-1), .int .i64 (-1)]) ∧ w = w') := Lib.hid (C.out.mono fun _ _ h => ⟨h.2.1 hs, h.2.2⟩)
    have HR : Ru.bgB n k 4 l = false := decide_eq_false fun h => hs ⟨(hiff.2 h).1, (hiff.2 h).2.1⟩
    rw [HR]
    clear HR C hiff hs hl
    go_enter Tryd.func39, Tryd.ntmps39
    go_wp2_with (go_at_call 40; ((with_reducible refine (C'.out).mono ?_); rintro e w' ⟨rfl, rfl⟩))
    go_ret
    exact ⟨rfl, rfl⟩
end Go.Proofs.YtakafhjnkcilkaaDoor
