/-
  Walks of the small functions of runes: what a character is.
-/
import Derived.Test.YtppgklmliklkkaaGreatDoorGh
import Derived.Test.YtppgklmliklkkaaGreatDoorGs
import Derived.Shelf.Spec.DecodeRune
import Derived.Shelf.Spec.RuneCount
import Derived.Shelf.Spec.NilArms
namespace Go.Proofs.YtppgklmliklkkaaGreatDoor
open Go.RowKit

namespace Ru
theorem isB_lib (c : Int) : Lib.validRune c = isB c := by
  unfold Lib.validRune isB
  rw [Bool.eq_iff_iff]; simp; omega
end Ru

set_option maxHeartbeats 400000 in
theorem is_any (c : Int) (w : World) :
    Calls Tryz.prog 69 #[.int .i32 c] w fun e w' => e = .returned (.bool (Ru.isB c)) ∧ w = w' := by
  rw [← Ru.isB_lib]
  go_enter Tryz.func69, Tryz.ntmps69
  go_wp2_with (go_at_call 79; refine (Tryz.utf8_ValidRune _ _).mono ?_; rintro e w' ⟨rfl, rfl⟩)
  go_ret
  exact ⟨rfl, rfl⟩

set_option maxHeartbeats 400000 in
theorem letter_any (c : Int) (w : World) :
    Calls Tryz.prog 70 #[.int .i32 c] w fun e w' => e = .returned (.bool (Ru.letB c)) ∧ w = w' := by
  by_cases a1 : 97 ≤ c <;> by_cases a2 : c ≤ 122 <;> by_cases a3 : 65 ≤ c <;> by_cases a4 : c ≤ 90
  all_goals try omega
  all_goals
    go_enter Tryz.func70, Tryz.ntmps70
    go_wp2_with fail
    go_ret
    exact ⟨ret_bool (by unfold Ru.letB; simp; try omega), rfl⟩

set_option maxHeartbeats 400000 in
theorem isdigit_any (c : Int) (w : World) :
    Calls Tryz.prog 51 #[.int .i32 c] w fun e w' => e = .returned (.bool (Ru.digB c)) ∧ w = w' := by
  by_cases a1 : 48 ≤ c <;> by_cases a2 : c ≤ 57
  all_goals try omega
  all_goals
    go_enter Tryz.func51, Tryz.ntmps51
    go_wp2_with fail
    go_ret
    exact ⟨ret_bool (by unfold Ru.digB; simp; try omega), rfl⟩

set_option maxHeartbeats 400000 in
theorem white_any (c : Int) (w : World) :
    Calls Tryz.prog 18 #[.int .i32 c] w fun e w' => e = .returned (.bool (Ru.whiB c)) ∧ w = w' := by
  by_cases a1 : c = 9
  · subst a1
    go_enter Tryz.func18, Tryz.ntmps18
    go_wp2_with fail
    go_ret
    exact ⟨rfl, rfl⟩
  · by_cases a2 : c = 10
    · subst a2
      go_enter Tryz.func18, Tryz.ntmps18
      go_wp2_with fail
      go_ret
      exact ⟨rfl, rfl⟩
    · by_cases a3 : c = 32
      · subst a3
        go_enter Tryz.func18, Tryz.ntmps18
        go_wp2_with fail
        go_ret
        exact ⟨rfl, rfl⟩
      · have e1 := Ru.eq_f a1
        have e2 := Ru.eq_f a2
        have e3 := Ru.eq_f a3
        go_enter Tryz.func18, Tryz.ntmps18
        go_wp2_with fail
        go_ret
        exact ⟨ret_bool (by unfold Ru.whiB; simp [a1, a2, a3]), rfl⟩

set_option maxHeartbeats 400000 in
theorem plain_any (c : Int) (w : World) :
    Calls Tryz.prog 17 #[.int .i32 c] w fun e w' => e = .returned (.int .i32 (Ru.plain c)) ∧ w = w' := by
  by_cases a1 : c = 13
  · subst a1
    go_enter Tryz.func17, Tryz.ntmps17
    go_wp2_with fail
    go_ret
    exact ⟨rfl, rfl⟩
  · by_cases a2 : c = 12
    · subst a2
      go_enter Tryz.func17, Tryz.ntmps17
      go_wp2_with fail
      go_ret
      exact ⟨rfl, rfl⟩
    · by_cases a3 : c = 0
      · subst a3
        go_enter Tryz.func17, Tryz.ntmps17
        go_wp2_with fail
        go_ret
        exact ⟨rfl, rfl⟩
      · have e1 := Ru.eq_f a1
        have e2 := Ru.eq_f a2
        have e3 := Ru.eq_f a3
        go_enter Tryz.func17, Tryz.ntmps17
        go_wp2_with fail
        go_ret
        exact ⟨ret_int (by unfold Ru.plain; simp [a1, a2, a3]), rfl⟩

set_option maxHeartbeats 400000 in
theorem hex_any (c : Int) (w : World) :
    Calls Tryz.prog 68 #[.int .i32 c] w fun e w' => e = .returned (.int .i64 (Ru.hexV c)) ∧ w = w' := by
  by_cases b : 48 ≤ c ∧ c ≤ 57
  · have hd : Ru.digB c = true := decide_eq_true b
    obtain ⟨b1, b2⟩ := b
    go_enter Tryz.func68, Tryz.ntmps68
    go_wp2_with (go_at_call 51; refine (isdigit_any _ _).mono ?_; rintro e w' ⟨rfl, rfl⟩)
    go_ret
    exact ⟨ret_int (by unfold Ru.hexV; rw [if_pos ⟨b1, b2⟩]), rfl⟩
  · have hd : Ru.digB c = false := decide_eq_false b
    by_cases a1 : 97 ≤ c <;> by_cases a2 : c ≤ 102 <;> by_cases a3 : 65 ≤ c <;> by_cases a4 : c ≤ 70
    all_goals try omega
    all_goals
      go_enter Tryz.func68, Tryz.ntmps68
      go_wp2_with (go_at_call 51; refine (isdigit_any _ _).mono ?_; rintro e w' ⟨rfl, rfl⟩)
      go_ret
      exact ⟨ret_int (by unfold Ru.hexV; omega), rfl⟩

set_option maxHeartbeats 400000 in
theorem begins_any (c : Int) (w : World) :
    Calls Tryz.prog 50 #[.int .i32 c] w fun e w' => e = .returned (.bool (Ru.begB c)) ∧ w = w' := by
  by_cases a : (97 ≤ c ∧ c ≤ 122) ∨ (65 ≤ c ∧ c ≤ 90)
  · have hd : Ru.letB c = true := decide_eq_true a
    have H := Lib.hid a
    clear a
    go_enter Tryz.func50, Tryz.ntmps50
    go_wp2_with (first | (go_at_call 70; refine (letter_any _ _).mono ?_; rintro e w' ⟨rfl, rfl⟩) | (go_at_call 69; refine (is_any _ _).mono ?_; rintro e w' ⟨rfl, rfl⟩))
    go_ret
    exact ⟨ret_bool (decide_eq_true (Or.inl H.out)).symm, rfl⟩
  · have hd : Ru.letB c = false := decide_eq_false a
    have H := Lib.hid a
    clear a
    by_cases a1 : c = 95
    · subst a1
      go_enter Tryz.func50, Tryz.ntmps50
      go_wp2_with (first | (go_at_call 70; refine (letter_any _ _).mono ?_; rintro e w' ⟨rfl, rfl⟩) | (go_at_call 69; refine (is_any _ _).mono ?_; rintro e w' ⟨rfl, rfl⟩))
      go_ret
      exact ⟨rfl, rfl⟩
    · have e1 := Ru.eq_f a1
      by_cases a2 : 128 ≤ c
      · go_enter Tryz.func50, Tryz.ntmps50
        go_wp2_with (first | (go_at_call 70; refine (letter_any _ _).mono ?_; rintro e w' ⟨rfl, rfl⟩) | (go_at_call 69; refine (is_any _ _).mono ?_; rintro e w' ⟨rfl, rfl⟩))
        go_ret
        exact ⟨ret_bool (by unfold Ru.begB Ru.isB; rw [Bool.eq_iff_iff]; simp; have := H.out; omega), rfl⟩
      · go_enter Tryz.func50, Tryz.ntmps50
        go_wp2_with (first | (go_at_call 70; refine (letter_any _ _).mono ?_; rintro e w' ⟨rfl, rfl⟩) | (go_at_call 69; refine (is_any _ _).mono ?_; rintro e w' ⟨rfl, rfl⟩))
        go_ret
        exact ⟨ret_bool (by unfold Ru.begB; rw [Bool.eq_iff_iff]; simp; have := H.out; omega), rfl⟩

set_option maxHeartbeats 400000 in
theorem within_any (c : Int) (w : World) :
    Calls Tryz.prog 22 #[.int .i32 c] w fun e w' => e = .returned (.bool (Ru.witB c)) ∧ w = w' := by
  unfold Ru.witB
  cases hb : Ru.begB c
  · by_cases a : 48 ≤ c ∧ c ≤ 57
    · have hd : Ru.digB c = true := decide_eq_true a
      have H := Lib.hid a
      clear a
      go_enter Tryz.func22, Tryz.ntmps22
      go_wp2_with (first | (go_at_call 50; refine (begins_any _ _).mono ?_; rintro e w' ⟨rfl, rfl⟩) | (go_at_call 51; refine (isdigit_any _ _).mono ?_; rintro e w' ⟨rfl, rfl⟩))
      go_ret
      exact ⟨ret_bool (decide_eq_true (Or.inl H.out)).symm, rfl⟩
    · have hd : Ru.digB c = false := decide_eq_false a
      have H := Lib.hid a
      clear a
      by_cases a1 : c = 45
      · subst a1
        go_enter Tryz.func22, Tryz.ntmps22
        go_wp2_with (first | (go_at_call 50; refine (begins_any _ _).mono ?_; rintro e w' ⟨rfl, rfl⟩) | (go_at_call 51; refine (isdigit_any _ _).mono ?_; rintro e w' ⟨rfl, rfl⟩))
        go_ret
        exact ⟨rfl, rfl⟩
      · have e1 := Ru.eq_f a1
        go_enter Tryz.func22, Tryz.ntmps22
        go_wp2_with (first | (go_at_call 50; refine (begins_any _ _).mono ?_; rintro e w' ⟨rfl, rfl⟩) | (go_at_call 51; refine (isdigit_any _ _).mono ?_; rintro e w' ⟨rfl, rfl⟩))
        go_ret
        exact ⟨ret_bool (by simp [a1]; have := H.out; omega), rfl⟩
  · go_enter Tryz.func22, Tryz.ntmps22
    go_wp2_with (first | (go_at_call 50; refine (begins_any _ _).mono ?_; rintro e w' ⟨rfl, rfl⟩) | (go_at_call 51; refine (isdigit_any _ _).mono ?_; rintro e w' ⟨rfl, rfl⟩))
    go_ret
    exact ⟨rfl, rfl⟩

end Go.Proofs.YtppgklmliklkkaaGreatDoor

/-
  The library's contracts of unicode/utf8's DecodeRune and RuneCount over slices of bytes, laid at this translation: one application each.
-/
namespace Go.Proofs
open Go.Shelf Go.RowKit
def Tryz.lays7n32_ren : Go.Shelf.Ren := ⟨fun | 32 => 44 | 49 => 64 | n => n, fun | 0 => 0 | 3 => 3 | 4 => 4 | 5 => 5 | 21 => 21 | 25 => 83 | 30 => 22 | 33 => 50 | 66 => 91 | 68 => 93 | 69 => 94 | n => n, fun | 2 => 0 | 3 => 1 | n => n⟩
theorem Tryz.lays7n32 : Go.Proofs.Lays7.n32 Tryz.prog Tryz.lays7n32_ren := {
  mixed := by kernel_rfl
  f32 := Tryz.func44.trans (congrArg some (by kernel_rfl))
  f49 := Tryz.func64.trans (congrArg some (by kernel_rfl))
  t0 := Tryz.underlying0
  a0 := Tryz.isAgg0
  z0 := Tryz.sizeOf0
  v0 := Tryz.zeroValue0
  i0 := by kernel_rfl
  t3 := Tryz.underlying3
  a3 := Tryz.isAgg3
  z3 := Tryz.sizeOf3
  v3 := Tryz.zeroValue3
  i3 := by kernel_rfl
  t4 := Tryz.underlying4
  a4 := Tryz.isAgg4
  z4 := Tryz.sizeOf4
  v4 := Tryz.zeroValue4
  i4 := by kernel_rfl
  t5 := Tryz.underlying5
  a5 := Tryz.isAgg5
  z5 := Tryz.sizeOf5
  v5 := Tryz.zeroValue5
  i5 := by kernel_rfl
  t21 := Tryz.underlying21
  a21 := Tryz.isAgg21
  z21 := Tryz.sizeOf21
  v21 := Tryz.zeroValue21
  i21 := by kernel_rfl
  t25 := Tryz.underlying83
  a25 := Tryz.isAgg83
  z25 := Tryz.sizeOf83
  v25 := Tryz.zeroValue83
  i25 := by kernel_rfl
  t30 := Tryz.underlying22
  a30 := Tryz.isAgg22
  z30 := Tryz.sizeOf22
  v30 := Tryz.zeroValue22
  i30 := by kernel_rfl
  t33 := Tryz.underlying50
  a33 := Tryz.isAgg50
  z33 := Tryz.sizeOf50
  v33 := Tryz.zeroValue50
  i33 := by kernel_rfl
  t66 := Tryz.underlying91
  a66 := Tryz.isAgg91
  z66 := Tryz.sizeOf91
  t68 := Tryz.underlying93
  a68 := Tryz.isAgg93
  z68 := Tryz.sizeOf93
  v68 := Tryz.zeroValue93
  i68 := by kernel_rfl
  t69 := Tryz.underlying94
  a69 := Tryz.isAgg94
  z69 := Tryz.sizeOf94
  v69 := Tryz.zeroValue94
  i69 := by kernel_rfl
  g2 := by kernel_rfl
  g3 := by kernel_rfl }
def Tryz.lays7n31_ren : Go.Shelf.Ren := ⟨fun | 31 => 15 | 48 => 43 | n => n, fun | 0 => 0 | 3 => 3 | 4 => 4 | 5 => 5 | 9 => 9 | 30 => 22 | n => n, fun | n => n⟩
theorem Tryz.lays7n31 : Go.Proofs.Lays7.n31 Tryz.prog Tryz.lays7n31_ren := {
  mixed := by kernel_rfl
  f31 := Tryz.func15.trans (congrArg some (by kernel_rfl))
  f48 := Tryz.func43.trans (congrArg some (by kernel_rfl))
  t0 := Tryz.underlying0
  a0 := Tryz.isAgg0
  z0 := Tryz.sizeOf0
  v0 := Tryz.zeroValue0
  i0 := by kernel_rfl
  t3 := Tryz.underlying3
  a3 := Tryz.isAgg3
  z3 := Tryz.sizeOf3
  v3 := Tryz.zeroValue3
  i3 := by kernel_rfl
  t4 := Tryz.underlying4
  a4 := Tryz.isAgg4
  z4 := Tryz.sizeOf4
  v4 := Tryz.zeroValue4
  i4 := by kernel_rfl
  t5 := Tryz.underlying5
  a5 := Tryz.isAgg5
  z5 := Tryz.sizeOf5
  v5 := Tryz.zeroValue5
  i5 := by kernel_rfl
  t9 := Tryz.underlying9
  a9 := Tryz.isAgg9
  z9 := Tryz.sizeOf9
  v9 := Tryz.zeroValue9
  i9 := by kernel_rfl
  t30 := Tryz.underlying22
  a30 := Tryz.isAgg22
  z30 := Tryz.sizeOf22
  v30 := Tryz.zeroValue22
  i30 := by kernel_rfl }
theorem Tryz.utf8_DecodeRune (s : ByteArray) (b off cap : Nat) (w : World) (hT : Lib.Utf8Tabs 0 1 w) (hp : ∀ j, j < s.size → w.cell? ⟨b, off + j, none⟩ = some (.int .u8 (s.get! j).toNat)) :
    Calls Tryz.prog 44 #[.slice (some ⟨b, off, none⟩) s.size cap] w fun e w' => e = .returned (.tuple #[.int .i32 (Lib.decodeGo s).1, .int .i64 (Lib.decodeGo s).2]) ∧ Below w.heap.size w w' := Any7.utf8_DecodeRune Tryz.lays7n32 s b off cap w hT hp
theorem Tryz.utf8_RuneCount (s : ByteArray) (b off cap : Nat) (w : World) (hcap : s.size ≤ cap) (hp : ∀ j, j < s.size → w.cell? ⟨b, off + j, none⟩ = some (.int .u8 (s.get! j).toNat)) (hs : s.size < 9223372036854775807) :
    Calls Tryz.prog 15 #[.slice (some ⟨b, off, none⟩) s.size cap] w fun e w' => e = .returned (.int .i64 (Lib.runeCount s)) ∧ (w' = w ∨ ∃ t pos, w' = w.iter t pos) := Any7.utf8_RuneCount Tryz.lays7n31 s b off cap w hcap hp hs
theorem Tryz.utf8_RuneCount_nil (w : World) :
    Calls Tryz.prog 15 #[.slice none 0 0] w fun e w' => e = .returned (.int .i64 0) ∧ w' = w := Any7.utf8_RuneCount_nil Tryz.lays7n31 w
end Go.Proofs

/-
  The library's tables, below a block.
-/
namespace Go.Proofs.YtppgklmliklkkaaGreatDoor
open Go.RowKit

/-- the library's tables, below block B -/
def UTab (B : Nat) (w : World) : Prop := Lib.Utf8Tabs 0 1 w ∧ 0 < B ∧ 1 < B
theorem UTab.below {B : Nat} {w w' : World} (h : UTab B w) (hb : Below B w w') : UTab B w' :=
  ⟨⟨fun c hc => (hb.cell (p := ⟨_, _, none⟩) h.2.1).trans (h.1.1 c hc), fun i hi => ⟨(hb.cell (p := ⟨_, _, none⟩) h.2.2).trans (h.1.2 i hi).1, (hb.cell (p := ⟨_, _, none⟩) h.2.2).trans (h.1.2 i hi).2⟩⟩, h.2⟩
theorem UTab.of {w : World} (h : Lib.Utf8Tabs 0 1 w) : UTab w.heap.size w :=
  ⟨h, World.block_lt_of_cell? w _ (h.1 0 (by decide)), World.block_lt_of_cell? w _ (h.2 0 (by decide)).1⟩

end Go.Proofs.YtppgklmliklkkaaGreatDoor
