/-
  Walks of the small functions of runes and of the reference: what a character is.
-/
import Derived.Test.YtakafhjnkcilkaaDoorRows
import Derived.Test.YtakafhjnkcilkaaDoorRuP
import Derived.Test.YtakafhjnkcilkaaDoorShelf
import Derived.WalkKit
import Derived.WalkSpells
import Derived.WalkLawsBesides
import Derived.Lib.Hide
namespace Go.Proofs.YtakafhjnkcilkaaDoor
open Go.RowKit

theorem ret_int {k : IntKind} {a b : Int} (h : a = b) : Ending.returned (.int k a) = .returned (.int k b) := by rw [h]
theorem ret_bool {a b : Bool} (h : a = b) : Ending.returned (.bool a) = .returned (.bool b) := by rw [h]

namespace Ru
def isB (c : Int) : Bool := decide (0 ≤ c ∧ c ≤ 1114111 ∧ (c < 55296 ∨ 57343 < c))
def letB (c : Int) : Bool := decide ((97 ≤ c ∧ c ≤ 122) ∨ (65 ≤ c ∧ c ≤ 90))
def digB (c : Int) : Bool := decide (48 ≤ c ∧ c ≤ 57)
def whiB (c : Int) : Bool := decide (c = 9 ∨ c = 10 ∨ c = 32)
def begB (c : Int) : Bool := decide (((97 ≤ c ∧ c ≤ 122) ∨ (65 ≤ c ∧ c ≤ 90)) ∨ c = 95 ∨ (128 ≤ c ∧ (0 ≤ c ∧ c ≤ 1114111 ∧ (c < 55296 ∨ 57343 < c))))
def witB (c : Int) : Bool := begB c || decide ((48 ≤ c ∧ c ≤ 57) ∨ c = 45)
def hexV (c : Int) : Int := if 48 ≤ c ∧ c ≤ 57 then c - 48 else if 97 ≤ c ∧ c ≤ 102 then c - 87 else if 65 ≤ c ∧ c ≤ 70 then c - 55 else -1
theorem isB_iff {c : Int} : isB c = true ↔ Is c := by unfold isB Is; exact decide_eq_true_iff
theorem isB_lib (c : Int) : Lib.validRune c = isB c := by
  unfold Lib.validRune isB
  rw [Bool.eq_iff_iff]; simp; omega
theorem eq_f {a b : Int} (h : ¬ a = b) : (a == b) = false := by rw [beq_eq_false_iff_ne]; exact h
theorem eq_t {a b : Int} (h : a = b) : (a == b) = true := by rw [beq_iff_eq]; exact h
end Ru

set_option maxHeartbeats 400000 in
theorem is_any (c : Int) (w : World) :
    Calls Tryd.prog 18 #[.int .i32 c] w fun e w' => e = .returned (.bool (Ru.isB c)) ∧ w = w' := by
  rw [← Ru.isB_lib]
  go_enter Tryd.func18, Tryd.ntmps18
  go_wp2_with (go_at_call 34; refine (Tryd.utf8_ValidRune _ _).mono ?_; rintro e w' ⟨rfl, rfl⟩)
  go_ret
  exact ⟨rfl, rfl⟩

set_option maxHeartbeats 400000 in
theorem letter_any (c : Int) (w : World) :
    Calls Tryd.prog 35 #[.int .i32 c] w fun e w' => e = .returned (.bool (Ru.letB c)) ∧ w = w' := by
  by_cases a1 : 97 ≤ c <;> by_cases a2 : c ≤ 122 <;> by_cases a3 : 65 ≤ c <;> by_cases a4 : c ≤ 90
  all_goals try omega
  all_goals
    go_enter Tryd.func35, Tryd.ntmps35
    go_wp2_with fail
    go_ret
    exact ⟨ret_bool (by unfold Ru.letB; simp; try omega), rfl⟩

set_option maxHeartbeats 400000 in
theorem digit_any (c : Int) (w : World) :
    Calls Tryd.prog 26 #[.int .i32 c] w fun e w' => e = .returned (.bool (Ru.digB c)) ∧ w = w' := by
  by_cases a1 : 48 ≤ c <;> by_cases a2 : c ≤ 57
  all_goals try omega
  all_goals
    go_enter Tryd.func26, Tryd.ntmps26
    go_wp2_with fail
    go_ret
    exact ⟨ret_bool (by unfold Ru.digB; simp; try omega), rfl⟩

set_option maxHeartbeats 400000 in
theorem white_any (c : Int) (w : World) :
    Calls Tryd.prog 25 #[.int .i32 c] w fun e w' => e = .returned (.bool (Ru.whiB c)) ∧ w = w' := by
  by_cases a1 : c = 9
  · subst a1
    go_enter Tryd.func25, Tryd.ntmps25
    go_wp2_with fail
    go_ret
    exact ⟨rfl, rfl⟩
  · by_cases a2 : c = 10
    · subst a2
      go_enter Tryd.func25, Tryd.ntmps25
      go_wp2_with fail
      go_ret
      exact ⟨rfl, rfl⟩
    · by_cases a3 : c = 32
      · subst a3
        go_enter Tryd.func25, Tryd.ntmps25
        go_wp2_with fail
        go_ret
        exact ⟨rfl, rfl⟩
      · have e1 := Ru.eq_f a1
        have e2 := Ru.eq_f a2
        have e3 := Ru.eq_f a3
        go_enter Tryd.func25, Tryd.ntmps25
        go_wp2_with fail
        go_ret
        exact ⟨ret_bool (by unfold Ru.whiB; simp [a1, a2, a3]), rfl⟩

set_option maxHeartbeats 400000 in
theorem plain_any (c : Int) (w : World) :
    Calls Tryd.prog 30 #[.int .i32 c] w fun e w' => e = .returned (.int .i32 (Ru.plain c)) ∧ w = w' := by
  by_cases a1 : c = 13
  · subst a1
    go_enter Tryd.func30, Tryd.ntmps30
    go_wp2_with fail
    go_ret
    exact ⟨rfl, rfl⟩
  · by_cases a2 : c = 12
    · subst a2
      go_enter Tryd.func30, Tryd.ntmps30
      go_wp2_with fail
      go_ret
      exact ⟨rfl, rfl⟩
    · by_cases a3 : c = 0
      · subst a3
        go_enter Tryd.func30, Tryd.ntmps30
        go_wp2_with fail
        go_ret
        exact ⟨rfl, rfl⟩
      · have e1 := Ru.eq_f a1
        have e2 := Ru.eq_f a2
        have e3 := Ru.eq_f a3
        go_enter Tryd.func30, Tryd.ntmps30
        go_wp2_with fail
        go_ret
        exact ⟨ret_int (by unfold Ru.plain; simp [a1, a2, a3]), rfl⟩

set_option maxHeartbeats 400000 in
theorem hex_any (c : Int) (w : World) :
    Calls Tryd.prog 23 #[.int .i32 c] w fun e w' => e = .returned (.int .i64 (Ru.hexV c)) ∧ w = w' := by
  by_cases b : 48 ≤ c ∧ c ≤ 57
  · have hd : Ru.digB c = true := decide_eq_true b
    obtain ⟨b1, b2⟩ := b
    go_enter Tryd.func23, Tryd.ntmps23
    go_wp2_with (go_at_call 26; refine (digit_any _ _).mono ?_; rintro e w' ⟨rfl, rfl⟩)
    go_ret
    exact ⟨ret_int (by unfold Ru.hexV; rw [if_pos ⟨b1, b2⟩]), rfl⟩
  · have hd : Ru.digB c = false := decide_eq_false b
    by_cases a1 : 97 ≤ c <;> by_cases a2 : c ≤ 102 <;> by_cases a3 : 65 ≤ c <;> by_cases a4 : c ≤ 70
    all_goals try omega
    all_goals
      go_enter Tryd.func23, Tryd.ntmps23
      go_wp2_with (go_at_call 26; refine (digit_any _ _).mono ?_; rintro e w' ⟨rfl, rfl⟩)
      go_ret
      exact ⟨ret_int (by unfold Ru.hexV; omega), rfl⟩

set_option maxHeartbeats 400000 in
theorem begins_any (c : Int) (w : World) :
    Calls Tryd.prog 19 #[.int .i32 c] w fun e w' => e = .returned (.bool (Ru.begB c)) ∧ w = w' := by
  by_cases a : (97 ≤ c ∧ c ≤ 122) ∨ (65 ≤ c ∧ c ≤ 90)
  · have hd : Ru.letB c = true := decide_eq_true a
    have H := Lib.hid a
    clear a
    go_enter Tryd.func19, Tryd.ntmps19
    go_wp2_with (first | (go_at_call 35; refine (letter_any _ _).mono ?_; rintro e w' ⟨rfl, rfl⟩) | (go_at_call 18; refine (is_any _ _).mono ?_; rintro e w' ⟨rfl, rfl⟩))
    go_ret
    exact ⟨ret_bool (decide_eq_true (Or.inl H.out)).symm, rfl⟩
  · have hd : Ru.letB c = false := decide_eq_false a
    have H := Lib.hid a
    clear a
    by_cases a1 : c = 95
    · subst a1
      go_enter Tryd.func19, Tryd.ntmps19
      go_wp2_with (first | (go_at_call 35; refine (letter_any _ _).mono ?_; rintro e w' ⟨rfl, rfl⟩) | (go_at_call 18; refine (is_any _ _).mono ?_; rintro e w' ⟨rfl, rfl⟩))
      go_ret
      exact ⟨rfl, rfl⟩
    · have e1 := Ru.eq_f a1
      by_cases a2 : 128 ≤ c
      · go_enter Tryd.func19, Tryd.ntmps19
        go_wp2_with (first | (go_at_call 35; refine (letter_any _ _).mono ?_; rintro e w' ⟨rfl, rfl⟩) | (go_at_call 18; refine (is_any _ _).mono ?_; rintro e w' ⟨rfl, rfl⟩))
        go_ret
        exact ⟨ret_bool (by unfold Ru.begB Ru.isB; rw [Bool.eq_iff_iff]; simp; have := H.out; omega), rfl⟩
      · go_enter Tryd.func19, Tryd.ntmps19
        go_wp2_with (first | (go_at_call 35; refine (letter_any _ _).mono ?_; rintro e w' ⟨rfl, rfl⟩) | (go_at_call 18; refine (is_any _ _).mono ?_; rintro e w' ⟨rfl, rfl⟩))
        go_ret
        exact ⟨ret_bool (by unfold Ru.begB; rw [Bool.eq_iff_iff]; simp; have := H.out; omega), rfl⟩

set_option maxHeartbeats 400000 in
theorem within_any (c : Int) (w : World) :
    Calls Tryd.prog 21 #[.int .i32 c] w fun e w' => e = .returned (.bool (Ru.witB c)) ∧ w = w' := by
  unfold Ru.witB
  cases hb : Ru.begB c
  · by_cases a : 48 ≤ c ∧ c ≤ 57
    · have hd : Ru.digB c = true := decide_eq_true a
      have H := Lib.hid a
      clear a
      go_enter Tryd.func21, Tryd.ntmps21
      go_wp2_with (first | (go_at_call 19; refine (begins_any _ _).mono ?_; rintro e w' ⟨rfl, rfl⟩) | (go_at_call 26; refine (digit_any _ _).mono ?_; rintro e w' ⟨rfl, rfl⟩))
      go_ret
      exact ⟨ret_bool (decide_eq_true (Or.inl H.out)).symm, rfl⟩
    · have hd : Ru.digB c = false := decide_eq_false a
      have H := Lib.hid a
      clear a
      by_cases a1 : c = 45
      · subst a1
        go_enter Tryd.func21, Tryd.ntmps21
        go_wp2_with (first | (go_at_call 19; refine (begins_any _ _).mono ?_; rintro e w' ⟨rfl, rfl⟩) | (go_at_call 26; refine (digit_any _ _).mono ?_; rintro e w' ⟨rfl, rfl⟩))
        go_ret
        exact ⟨rfl, rfl⟩
      · have e1 := Ru.eq_f a1
        go_enter Tryd.func21, Tryd.ntmps21
        go_wp2_with (first | (go_at_call 19; refine (begins_any _ _).mono ?_; rintro e w' ⟨rfl, rfl⟩) | (go_at_call 26; refine (digit_any _ _).mono ?_; rintro e w' ⟨rfl, rfl⟩))
        go_ret
        exact ⟨ret_bool (by simp [a1]; have := H.out; omega), rfl⟩
  · go_enter Tryd.func21, Tryd.ntmps21
    go_wp2_with (first | (go_at_call 19; refine (begins_any _ _).mono ?_; rintro e w' ⟨rfl, rfl⟩) | (go_at_call 26; refine (digit_any _ _).mono ?_; rintro e w' ⟨rfl, rfl⟩))
    go_ret
    exact ⟨rfl, rfl⟩

/-! ### the reference -/
set_option maxHeartbeats 400000 in
theorem ris_any (c : Int) (w : World) :
    Calls Tryd.prog 17 #[.int .i64 c] w fun e w' => e = .returned (.bool (Ru.isB c)) ∧ w = w' := by
  by_cases a1 : 0 ≤ c <;> by_cases a2 : c ≤ 1114111 <;> by_cases a3 : c < 55296 <;> by_cases a4 : 57343 < c
  all_goals try omega
  all_goals
    go_enter Tryd.func17, Tryd.ntmps17
    go_wp2_with fail
    go_ret
    exact ⟨ret_bool (by unfold Ru.isB; simp; try omega), rfl⟩

set_option maxHeartbeats 400000 in
theorem rhex_any (c : Int) (w : World) :
    Calls Tryd.prog 24 #[.int .i64 c] w fun e w' => e = .returned (.int .i64 (Ru.hexV c)) ∧ w = w' := by
  by_cases b1 : 48 ≤ c <;> by_cases b2 : c ≤ 57 <;> by_cases a1 : 97 ≤ c <;> by_cases a2 : c ≤ 102 <;> by_cases a3 : 65 ≤ c <;> by_cases a4 : c ≤ 70
  all_goals try omega
  all_goals
    go_enter Tryd.func24, Tryd.ntmps24
    go_wp2_with fail
    go_ret
    exact ⟨ret_int (by unfold Ru.hexV; omega), rfl⟩

set_option maxHeartbeats 800000 in
theorem rbegins_any (c : Int) (w : World) :
    Calls Tryd.prog 20 #[.int .i64 c] w fun e w' => e = .returned (.bool (Ru.begB c)) ∧ w = w' := by
  by_cases b1 : c = 95
  · subst b1
    go_enter Tryd.func20, Tryd.ntmps20
    go_wp2_with fail
    go_ret
    exact ⟨rfl, rfl⟩
  · have e1 := Ru.eq_f b1
    by_cases b2 : 128 ≤ c
    · go_enter Tryd.func20, Tryd.ntmps20
      go_wp2_with (go_at_call 17; refine (ris_any _ _).mono ?_; rintro e w' ⟨rfl, rfl⟩)
      go_ret
      exact ⟨ret_bool (by unfold Ru.begB Ru.isB; rw [Bool.eq_iff_iff]; simp; omega), rfl⟩
    · by_cases a1 : 97 ≤ c <;> by_cases a2 : c ≤ 122 <;> by_cases a3 : 65 ≤ c <;> by_cases a4 : c ≤ 90
      all_goals try omega
      all_goals
        go_enter Tryd.func20, Tryd.ntmps20
        go_wp2_with fail
        go_ret
        exact ⟨ret_bool (by unfold Ru.begB; simp; try omega), rfl⟩

set_option maxHeartbeats 800000 in
theorem rwithin_any (c : Int) (w : World) :
    Calls Tryd.prog 22 #[.int .i64 c] w fun e w' => e = .returned (.bool (Ru.witB c)) ∧ w = w' := by
  unfold Ru.witB
  cases hb : Ru.begB c
  · by_cases b1 : c = 45
    · subst b1
      go_enter Tryd.func22, Tryd.ntmps22
      go_wp2_with (go_at_call 20; refine (rbegins_any _ _).mono ?_; rintro e w' ⟨rfl, rfl⟩)
      go_ret
      exact ⟨rfl, rfl⟩
    · have e1 := Ru.eq_f b1
      by_cases a1 : 48 ≤ c <;> by_cases a2 : c ≤ 57
      all_goals try omega
      all_goals
        go_enter Tryd.func22, Tryd.ntmps22
        go_wp2_with (go_at_call 20; refine (rbegins_any _ _).mono ?_; rintro e w' ⟨rfl, rfl⟩)
        go_ret
        exact ⟨ret_bool (by rw [Bool.eq_iff_iff]; simp; try omega), rfl⟩
  · go_enter Tryd.func22, Tryd.ntmps22
    go_wp2_with (go_at_call 20; refine (rbegins_any _ _).mono ?_; rintro e w' ⟨rfl, rfl⟩)
    go_ret
    exact ⟨rfl, rfl⟩

end Go.Proofs.YtakafhjnkcilkaaDoor
