/-
  Walks of the small functions of runes: what a character is.
-/
import Derived.Test.YtppgklmliklkkaaDoorGh
import Derived.Test.YtppgklmliklkkaaDoorGs
import Derived.Shelf.Spec.DecodeRune
import Derived.Shelf.Spec.RuneCount
import Derived.Shelf.Spec.NilArms
namespace Go.Proofs.YtppgklmliklkkaaDoor
open Go.RowKit

namespace Ru
theorem isB_lib (c : Int) : Lib.validRune c = isB c := by
  unfold Lib.validRune isB
  rw [Bool.eq_iff_iff]; simp; omega
end Ru

set_option maxHeartbeats 400000 in
theorem is_any (c : Int) (w : World) :
    Calls Tryd.prog 49 #[.int .i32 c] w fun e w' => e = .returned (.bool (Ru.isB c)) ∧ w = w' := by
  rw [← Ru.isB_lib]
  go_enter Tryd.func49, Tryd.ntmps49
  go_wp2_with (go_at_call 56; refine (Tryd.utf8_ValidRune _ _).mono ?_; rintro e w' ⟨rfl, rfl⟩)
  go_ret
  exact ⟨rfl, rfl⟩

set_option maxHeartbeats 400000 in
theorem letter_any (c : Int) (w : World) :
    Calls Tryd.prog 50 #[.int .i32 c] w fun e w' => e = .returned (.bool (Ru.letB c)) ∧ w = w' := by
  by_cases a1 : 97 ≤ c <;> by_cases a2 : c ≤ 122 <;> by_cases a3 : 65 ≤ c <;> by_cases a4 : c ≤ 90
  all_goals try omega
  all_goals
    go_enter Tryd.func50, Tryd.ntmps50
    go_wp2_with fail
    go_ret
    exact ⟨ret_bool (by unfold Ru.letB; simp; try omega), rfl⟩

set_option maxHeartbeats 400000 in
theorem isdigit_any (c : Int) (w : World) :
    Calls Tryd.prog 39 #[.int .i32 c] w fun e w' => e = .returned (.bool (Ru.digB c)) ∧ w = w' := by
  by_cases a1 : 48 ≤ c <;> by_cases a2 : c ≤ 57
  all_goals try omega
  all_goals
    go_enter Tryd.func39, Tryd.ntmps39
    go_wp2_with fail
    go_ret
    exact ⟨ret_bool (by unfold Ru.digB; simp; try omega), rfl⟩

set_option maxHeartbeats 400000 in
theorem white_any (c : Int) (w : World) :
    Calls Tryd.prog 18 #[.int .i32 c] w fun e w' => e = .returned (.bool (Ru.whiB c)) ∧ w = w' := by
  by_cases a1 : c = 9
  · subst a1
    go_enter Tryd.func18, Tryd.ntmps18
    go_wp2_with fail
    go_ret
    exact ⟨rfl, rfl⟩
  · by_cases a2 : c = 10
    · subst a2
      go_enter Tryd.func18, Tryd.ntmps18
      go_wp2_with fail
      go_ret
      exact ⟨rfl, rfl⟩
    · by_cases a3 : c = 32
      · subst a3
        go_enter Tryd.func18, Tryd.ntmps18
        go_wp2_with fail
        go_ret
        exact ⟨rfl, rfl⟩
      · have e1 := Ru.eq_f a1
        have e2 := Ru.eq_f a2
        have e3 := Ru.eq_f a3
        go_enter Tryd.func18, Tryd.ntmps18
        go_wp2_with fail
        go_ret
        exact ⟨ret_bool (by unfold Ru.whiB; simp [a1, a2, a3]), rfl⟩

set_option maxHeartbeats 400000 in
theorem plain_any (c : Int) (w : World) :
    Calls Tryd.prog 17 #[.int .i32 c] w fun e w' => e = .returned (.int .i32 (Ru.plain c)) ∧ w = w' := by
  by_cases a1 : c = 13
  · subst a1
    go_enter Tryd.func17, Tryd.ntmps17
    go_wp2_with fail
    go_ret
    exact ⟨rfl, rfl⟩
  · by_cases a2 : c = 12
    · subst a2
      go_enter Tryd.func17, Tryd.ntmps17
      go_wp2_with fail
      go_ret
      exact ⟨rfl, rfl⟩
    · by_cases a3 : c = 0
      · subst a3
        go_enter Tryd.func17, Tryd.ntmps17
        go_wp2_with fail
        go_ret
        exact ⟨rfl, rfl⟩
      · have e1 := Ru.eq_f a1
        have e2 := Ru.eq_f a2
        have e3 := Ru.eq_f a3
        go_enter Tryd.func17, Tryd.ntmps17
        go_wp2_with fail
        go_ret
        exact ⟨ret_int (by unfold Ru.plain; simp [a1, a2, a3]), rfl⟩

set_option maxHeartbeats 400000 in
theorem hex_any (c : Int) (w : World) :
    Calls Tryd.prog 48 #[.int .i32 c] w fun e w' => e = .returned (.int .i64 (Ru.hexV c)) ∧ w = w' := by
  by_cases b : 48 ≤ c ∧ c ≤ 57
  · have hd : Ru.digB c = true := decide_eq_true b
    obtain ⟨b1, b2⟩ := b
    go_enter Tryd.func48, Tryd.ntmps48
    go_wp2_with (go_at_call 39; refine (isdigit_any _ _).mono ?_; rintro e w' ⟨rfl, rfl⟩)
    go_ret
    exact ⟨ret_int (by unfold Ru.hexV; rw [if_pos ⟨b1, b2⟩]), rfl⟩
  · have hd : Ru.digB c = false := decide_eq_false b
    by_cases a1 : 97 ≤ c <;> by_cases a2 : c ≤ 102 <;> by_cases a3 : 65 ≤ c <;> by_cases a4 : c ≤ 70
    all_goals try omega
    all_goals
      go_enter Tryd.func48, Tryd.ntmps48
      go_wp2_with (go_at_call 39; refine (isdigit_any _ _).mono ?_; rintro e w' ⟨rfl, rfl⟩)
      go_ret
      exact ⟨ret_int (by unfold Ru.hexV; omega), rfl⟩

set_option maxHeartbeats 400000 in
theorem begins_any (c : Int) (w : World) :
    Calls Tryd.prog 38 #[.int .i32 c] w fun e w' => e = .returned (.bool (Ru.begB c)) ∧ w = w' := by
  by_cases a : (97 ≤ c ∧ c ≤ 122) ∨ (65 ≤ c ∧ c ≤ 90)
  · have hd : Ru.letB c = true := decide_eq_true a
    have H := Lib.hid a
    clear a
    go_enter Tryd.func38, Tryd.ntmps38
    go_wp2_with (first | (go_at_call 50; refine (letter_any _ _).mono ?_; rintro e w' ⟨rfl, rfl⟩) | (go_at_call 49; refine (is_any _ _).mono ?_; rintro e w' ⟨rfl, rfl⟩))
    go_ret
    exact ⟨ret_bool (decide_eq_true (Or.inl H.out)).symm, rfl⟩
  · have hd : Ru.letB c = false := decide_eq_false a
    have H := Lib.hid a
    clear a
    by_cases a1 : c = 95
    · subst a1
      go_enter Tryd.func38, Tryd.ntmps38
      go_wp2_with (first | (go_at_call 50; refine (letter_any _ _).mono ?_; rintro e w' ⟨rfl, rfl⟩) | (go_at_call 49; refine (is_any _ _).mono ?_; rintro e w' ⟨rfl, rfl⟩))
      go_ret
      exact ⟨rfl, rfl⟩
    · have e1 := Ru.eq_f a1
      by_cases a2 : 128 ≤ c
      · go_enter Tryd.func38, Tryd.ntmps38
        go_wp2_with (first | (go_at_call 50; refine (letter_any _ _).mono ?_; rintro e w' ⟨rfl, rfl⟩) | (go_at_call 49; refine (is_any _ _).mono ?_; rintro e w' ⟨rfl, rfl⟩))
        go_ret
        exact ⟨ret_bool (by unfold Ru.begB Ru.isB; rw [Bool.eq_iff_iff]; simp; have := H.out; omega), rfl⟩
      · go_enter Tryd.func38, Tryd.ntmps38
        go_wp2_with (first | (go_at_call 50; refine (letter_any _ _).mono ?_; rintro e w' ⟨rfl, rfl⟩) | (go_at_call 49; refine (is_any _ _).mono ?_; rintro e w' ⟨rfl, rfl⟩))
        go_ret
        exact ⟨ret_bool (by unfold Ru.begB; rw [Bool.eq_iff_iff]; simp; have := H.out; omega), rfl⟩

set_option maxHeartbeats 400000 in
theorem within_any (c : Int) (w : World) :
    Calls Tryd.prog 22 #[.int .i32 c] w fun e w' => e = .returned (.bool (Ru.witB c)) ∧ w = w' := by
  unfold Ru.witB
  cases hb : Ru.begB c
  · by_cases a : 48 ≤ c ∧ c ≤ 57
    · have hd : Ru.digB c = true := decide_eq_true a
      have H := Lib.hid a
      clear a
      go_enter Tryd.func22, Tryd.ntmps22
      go_wp2_with (first | (go_at_call 38; refine (begins_any _ _).mono ?_; rintro e w' ⟨rfl, rfl⟩) | (go_at_call 39; refine (isdigit_any _ _).mono ?_; rintro e w' ⟨rfl, rfl⟩))
      go_ret
      exact ⟨ret_bool (decide_eq_true (Or.inl H.out)).symm, rfl⟩
    · have hd : Ru.digB c = false := decide_eq_false a
      have H := Lib.hid a
      clear a
      by_cases a1 : c = 45
      · subst a1
        go_enter Tryd.func22, Tryd.ntmps22
        go_wp2_with (first | (go_at_call 38; refine (begins_any _ _).mono ?_; rintro e w' ⟨rfl, rfl⟩) | (go_at_call 39; refine (isdigit_any _ _).mono ?_; rintro e w' ⟨rfl, rfl⟩))
        go_ret
        exact ⟨rfl, rfl⟩
      · have e1 := Ru.eq_f a1
        go_enter Tryd.func22, Tryd.ntmps22
        go_wp2_with (first | (go_at_call 38; refine (begins_any _ _).mono ?_; rintro e w' ⟨rfl, rfl⟩) | (go_at_call 39; refine (isdigit_any _ _).mono ?_; rintro e w' ⟨rfl, rfl⟩))
        go_ret
        exact ⟨ret_bool (by simp [a1]; have := H.out; omega), rfl⟩
  · go_enter Tryd.func22, Tryd.ntmps22
    go_wp2_with (first | (go_at_call 38; refine (begins_any _ _).mono ?_; rintro e w' ⟨rfl, rfl⟩) | (go_at_call 39; refine (isdigit_any _ _).mono ?_; rintro e w' ⟨rfl, rfl⟩))
    go_ret
    exact ⟨rfl, rfl⟩

end Go.Proofs.YtppgklmliklkkaaDoor

/-
  The library's contracts of unicode/utf8's DecodeRune and RuneCount over slices of bytes, laid at this translation: one application each.
-/
namespace Go.Proofs
open Go.Shelf Go.RowKit
def Tryd.lays7n32_ren : Go.Shelf.Ren := ⟨fun | 32 => 32 | 49 => 44 | n => n, fun | 0 => 0 | 3 => 3 | 4 => 4 | 5 => 5 | 21 => 21 | 25 => 35 | 30 => 22 | 33 => 51 | 66 => 78 | 68 => 80 | 69 => 81 | n => n, fun | 2 => 0 | 3 => 1 | n => n⟩
theorem Tryd.lays7n32 : Go.Proofs.Lays7.n32 Tryd.prog Tryd.lays7n32_ren := {
  mixed := by kernel_rfl
  f32 := Tryd.func32.trans (congrArg some (by kernel_rfl))
  f49 := Tryd.func44.trans (congrArg some (by kernel_rfl))
  t0 := Tryd.underlying0
  a0 := Tryd.isAgg0
  z0 := Tryd.sizeOf0
  v0 := Tryd.zeroValue0
  i0 := by kernel_rfl
  t3 := Tryd.underlying3
  a3 := Tryd.isAgg3
  z3 := Tryd.sizeOf3
  v3 := Tryd.zeroValue3
  i3 := by kernel_rfl
  t4 := Tryd.underlying4
  a4 := Tryd.isAgg4
  z4 := Tryd.sizeOf4
  v4 := Tryd.zeroValue4
  i4 := by kernel_rfl
  t5 := Tryd.underlying5
  a5 := Tryd.isAgg5
  z5 := Tryd.sizeOf5
  v5 := Tryd.zeroValue5
  i5 := by kernel_rfl
  t21 := Tryd.underlying21
  a21 := Tryd.isAgg21
  z21 := Tryd.sizeOf21
  v21 := Tryd.zeroValue21
  i21 := by kernel_rfl
  t25 := Tryd.underlying35
  a25 := Tryd.isAgg35
  z25 := Tryd.sizeOf35
  v25 := Tryd.zeroValue35
  i25 := by kernel_rfl
  t30 := Tryd.underlying22
  a30 := Tryd.isAgg22
  z30 := Tryd.sizeOf22
  v30 := Tryd.zeroValue22
  i30 := by kernel_rfl
  t33 := Tryd.underlying51
  a33 := Tryd.isAgg51
  z33 := Tryd.sizeOf51
  v33 := Tryd.zeroValue51
  i33 := by kernel_rfl
  t66 := Tryd.underlying78
  a66 := Tryd.isAgg78
  z66 := Tryd.sizeOf78
  t68 := Tryd.underlying80
  a68 := Tryd.isAgg80
  z68 := Tryd.sizeOf80
  v68 := Tryd.zeroValue80
  i68 := by kernel_rfl
  t69 := Tryd.underlying81
  a69 := Tryd.isAgg81
  z69 := Tryd.sizeOf81
  v69 := Tryd.zeroValue81
  i69 := by kernel_rfl
  g2 := by kernel_rfl
  g3 := by kernel_rfl }
def Tryd.lays7n31_ren : Go.Shelf.Ren := ⟨fun | 31 => 15 | 48 => 31 | n => n, fun | 0 => 0 | 3 => 3 | 4 => 4 | 5 => 5 | 9 => 9 | 30 => 22 | n => n, fun | n => n⟩
theorem Tryd.lays7n31 : Go.Proofs.Lays7.n31 Tryd.prog Tryd.lays7n31_ren := {
  mixed := by kernel_rfl
  f31 := Tryd.func15.trans (congrArg some (by kernel_rfl))
  f48 := Tryd.func31.trans (congrArg some (by kernel_rfl))
  t0 := Tryd.underlying0
  a0 := Tryd.isAgg0
  z0 := Tryd.sizeOf0
  v0 := Tryd.zeroValue0
  i0 := by kernel_rfl
  t3 := Tryd.underlying3
  a3 := Tryd.isAgg3
  z3 := Tryd.sizeOf3
  v3 := Tryd.zeroValue3
  i3 := by kernel_rfl
  t4 := Tryd.underlying4
  a4 := Tryd.isAgg4
  z4 := Tryd.sizeOf4
  v4 := Tryd.zeroValue4
  i4 := by kernel_rfl
  t5 := Tryd.underlying5
  a5 := Tryd.isAgg5
  z5 := Tryd.sizeOf5
  v5 := Tryd.zeroValue5
  i5 := by kernel_rfl
  t9 := Tryd.underlying9
  a9 := Tryd.isAgg9
  z9 := Tryd.sizeOf9
  v9 := Tryd.zeroValue9
  i9 := by kernel_rfl
  t30 := Tryd.underlying22
  a30 := Tryd.isAgg22
  z30 := Tryd.sizeOf22
  v30 := Tryd.zeroValue22
  i30 := by kernel_rfl }
theorem Tryd.utf8_DecodeRune (s : ByteArray) (b off cap : Nat) (w : World) (hT : Lib.Utf8Tabs 0 1 w) (hp : ∀ j, j < s.size → w.cell? ⟨b, off + j, none⟩ = some (.int .u8 (s.get! j).toNat)) :
    Calls Tryd.prog 32 #[.slice (some ⟨b, off, none⟩) s.size cap] w fun e w' => e = .returned (.tuple #[.int .i32 (Lib.decodeGo s).1, .int .i64 (Lib.decodeGo s).2]) ∧ Below w.heap.size w w' := Any7.utf8_DecodeRune Tryd.lays7n32 s b off cap w hT hp
theorem Tryd.utf8_RuneCount (s : ByteArray) (b off cap : Nat) (w : World) (hcap : s.size ≤ cap) (hp : ∀ j, j < s.size → w.cell? ⟨b, off + j, none⟩ = some (.int .u8 (s.get! j).toNat)) (hs : s.size < 9223372036854775807) :
    Calls Tryd.prog 15 #[.slice (some ⟨b, off, none⟩) s.size cap] w fun e w' => e = .returned (.int .i64 (Lib.runeCount s)) ∧ (w' = w ∨ ∃ t pos, w' = w.iter t pos) := Any7.utf8_RuneCount Tryd.lays7n31 s b off cap w hcap hp hs
theorem Tryd.utf8_RuneCount_nil (w : World) :
    Calls Tryd.prog 15 #[.slice none 0 0] w fun e w' => e = .returned (.int .i64 0) ∧ w' = w := Any7.utf8_RuneCount_nil Tryd.lays7n31 w
end Go.Proofs

/-
  The library's tables, below a block.
-/
namespace Go.Proofs.YtppgklmliklkkaaDoor
open Go.RowKit

/-- the library's tables, below block B -/
def UTab (B : Nat) (w : World) : Prop := Lib.Utf8Tabs 0 1 w ∧ 0 < B ∧ 1 < B
theorem UTab.below {B : Nat} {w w' : World} (h : UTab B w) (hb : Below B w w') : UTab B w' :=
  ⟨⟨fun c hc => (hb.cell (p := ⟨_, _, none⟩) h.2.1).trans (h.1.1 c hc), fun i hi => ⟨(hb.cell (p := ⟨_, _, none⟩) h.2.2).trans (h.1.2 i hi).1, (hb.cell (p := ⟨_, _, none⟩) h.2.2).trans (h.1.2 i hi).2⟩⟩, h.2⟩
theorem UTab.of {w : World} (h : Lib.Utf8Tabs 0 1 w) : UTab w.heap.size w :=
  ⟨h, World.block_lt_of_cell? w _ (h.1 0 (by decide)), World.block_lt_of_cell? w _ (h.2 0 (by decide)).1⟩

end Go.Proofs.YtppgklmliklkkaaDoor
