/-
  Walks of the small functions of the reference: what a character is.
-/
import Derived.Test.YtppgklmliklkkaaGreatDoorGh
import Derived.LoopTactic
namespace Go.Proofs.YtppgklmliklkkaaGreatDoor
open Go.RowKit

/-! ### the reference -/
set_option maxHeartbeats 400000 in
theorem ris_any (c : Int) (w : World) :
    Calls Tryz.prog 77 #[.int .i64 c] w fun e w' => e = .returned (.bool (Ru.isB c)) ∧ w = w' := by
  by_cases a1 : 0 ≤ c <;> by_cases a2 : c ≤ 1114111 <;> by_cases a3 : c < 55296 <;> by_cases a4 : 57343 < c
  all_goals try omega
  all_goals
    go_enter Tryz.func77, Tryz.ntmps77
    go_wp2_with fail
    go_ret
    exact ⟨ret_bool (by unfold Ru.isB; simp; try omega), rfl⟩

set_option maxHeartbeats 400000 in
theorem rhex_any (c : Int) (w : World) :
    Calls Tryz.prog 76 #[.int .i64 c] w fun e w' => e = .returned (.int .i64 (Ru.hexV c)) ∧ w = w' := by
  by_cases b1 : 48 ≤ c <;> by_cases b2 : c ≤ 57 <;> by_cases a1 : 97 ≤ c <;> by_cases a2 : c ≤ 102 <;> by_cases a3 : 65 ≤ c <;> by_cases a4 : c ≤ 70
  all_goals try omega
  all_goals
    go_enter Tryz.func76, Tryz.ntmps76
    go_wp2_with fail
    go_ret
    exact ⟨ret_int (by unfold Ru.hexV; omega), rfl⟩

set_option maxHeartbeats 800000 in
theorem rbegins_any (c : Int) (w : World) :
    Calls Tryz.prog 59 #[.int .i64 c] w fun e w' => e = .returned (.bool (Ru.begB c)) ∧ w = w' := by
  by_cases b1 : c = 95
  · subst b1
    go_enter Tryz.func59, Tryz.ntmps59
    go_wp2_with fail
    go_ret
    exact ⟨rfl, rfl⟩
  · have e1 := Ru.eq_f b1
    by_cases b2 : 128 ≤ c
    · go_enter Tryz.func59, Tryz.ntmps59
      go_wp2_with (go_at_call 77; refine (ris_any _ _).mono ?_; rintro e w' ⟨rfl, rfl⟩)
      go_ret
      exact ⟨ret_bool (by unfold Ru.begB Ru.isB; rw [Bool.eq_iff_iff]; simp; omega), rfl⟩
    · by_cases a1 : 97 ≤ c <;> by_cases a2 : c ≤ 122 <;> by_cases a3 : 65 ≤ c <;> by_cases a4 : c ≤ 90
      all_goals try omega
      all_goals
        go_enter Tryz.func59, Tryz.ntmps59
        go_wp2_with fail
        go_ret
        exact ⟨ret_bool (by unfold Ru.begB; simp; try omega), rfl⟩

set_option maxHeartbeats 800000 in
theorem rwithin_any (c : Int) (w : World) :
    Calls Tryz.prog 35 #[.int .i64 c] w fun e w' => e = .returned (.bool (Ru.witB c)) ∧ w = w' := by
  unfold Ru.witB
  cases hb : Ru.begB c
  · by_cases b1 : c = 45
    · subst b1
      go_enter Tryz.func35, Tryz.ntmps35
      go_wp2_with (go_at_call 59; refine (rbegins_any _ _).mono ?_; rintro e w' ⟨rfl, rfl⟩)
      go_ret
      exact ⟨rfl, rfl⟩
    · have e1 := Ru.eq_f b1
      by_cases a1 : 48 ≤ c <;> by_cases a2 : c ≤ 57
      all_goals try omega
      all_goals
        go_enter Tryz.func35, Tryz.ntmps35
        go_wp2_with (go_at_call 59; refine (rbegins_any _ _).mono ?_; rintro e w' ⟨rfl, rfl⟩)
        go_ret
        exact ⟨ret_bool (by rw [Bool.eq_iff_iff]; simp; try omega), rfl⟩
  · go_enter Tryz.func35, Tryz.ntmps35
    go_wp2_with (go_at_call 59; refine (rbegins_any _ _).mono ?_; rintro e w' ⟨rfl, rfl⟩)
    go_ret
    exact ⟨rfl, rfl⟩

end Go.Proofs.YtppgklmliklkkaaGreatDoor

/-
  The walk of the reference's span.
-/
namespace Go.Proofs.YtppgklmliklkkaaGreatDoor
open Go.RowKit

/-- what span tells -/
def Spanned (k L : Nat) (l : List Int) (w : World) (e : Ending) (w' : World) : Prop :=
  (Ru.cls L (Ru.g l 0) ∧ Ru.okC k l (L - 1) → e = .returned (.tuple #[.int .i64 (Ru.spLo k l (Ru.base (Ru.g l 0)) (L - 1)), .int .i64 (Ru.spHi k l (Ru.base (Ru.g l 0)) (L - 1))])) ∧
  (¬ (Ru.cls L (Ru.g l 0) ∧ Ru.okC k l (L - 1)) → e = .returned (.tuple #[.int .i64 (-1), .int .i64 (-1)])) ∧ w = w'
def SpanAt (k L : Nat) (l : List Int) (v7 v8 v9 : Value) : Prop :=
  ∃ j : Nat, j + 1 ≤ L ∧ v9 = .int .i64 ((j + 1 : Nat) : Int) ∧ v7 = .int .i64 (Ru.spLo k l (Ru.base (Ru.g l 0)) j) ∧ v8 = .int .i64 (Ru.spHi k l (Ru.base (Ru.g l 0)) j) ∧ Hid (Ru.okC k l j)

theorem span_loop (k L : Nat) (l : List Int) (hL : 2 ≤ L ∧ L ≤ 4) (hc : Ru.cls L (Ru.g l 0)) (j : Nat) (hj : j + 1 ≤ L) (ho : Ru.okC k l j) :
    0 ≤ Ru.spLo k l (Ru.base (Ru.g l 0)) j ∧ Ru.spLo k l (Ru.base (Ru.g l 0)) j ≤ Ru.spHi k l (Ru.base (Ru.g l 0)) j ∧ Ru.spHi k l (Ru.base (Ru.g l 0)) j ≤ 8388607 := by
  have hb : 0 ≤ Ru.base (Ru.g l 0) ∧ Ru.base (Ru.g l 0) ≤ 31 := by unfold Ru.cls at hc; unfold Ru.base; omega
  have h1 := Ru.sp_bounds (k := k) (l := l) hb.1 hb.2 j (by omega) ho
  have h2 := Ru.pow_three (i := j) (by omega)
  omega
theorem span_yes {k : Nat} {l : List Int} {x : Int} {j : Nat} (h : j + 1 < k) : Ru.spLo k l x (j + 1) = Ru.spLo k l x j * 64 + Ru.g l (j + 1) - 128 ∧ Ru.spHi k l x (j + 1) = Ru.spHi k l x j * 64 + Ru.g l (j + 1) - 128 := by
  rw [Ru.spLo, Ru.spHi, if_pos h, if_pos h]; exact ⟨rfl, rfl⟩
theorem span_not {k : Nat} {l : List Int} {x : Int} {j : Nat} (h : ¬ j + 1 < k) : Ru.spLo k l x (j + 1) = Ru.spLo k l x j * 64 ∧ Ru.spHi k l x (j + 1) = Ru.spHi k l x j * 64 + 63 := by
  rw [Ru.spLo, Ru.spHi, if_neg h, if_neg h]; exact ⟨rfl, rfl⟩

set_option maxHeartbeats 2000000 in
set_option maxRecDepth 100000 in
theorem span_two (k : Nat) (l : List Int) (b off cap : Nat) (w : World) (h1 : 1 ≤ k) (hl : Ru.By l) (hm : k ≤ 9223372036854775807) (hp : ∀ j, j < k → w.cell? ⟨b, off + j, none⟩ = some (.int .u8 (Ru.g l j))) :
    Calls Tryz.prog 57 #[.slice (some ⟨b, off, none⟩) k cap, .int .i64 2] w (Spanned k 2 l w) := by
  have h0 := hp 0 (by omega)
  rw [Nat.add_zero] at h0
  have y0 := hl.at_ 0
  by_cases c1 : 192 ≤ Ru.g l 0
  · by_cases c2 : Ru.g l 0 < 224
    · have hc : Ru.cls 2 (Ru.g l 0) := by unfold Ru.cls; omega
      have hx : Ru.base (Ru.g l 0) = Ru.g l 0 - 192 := by unfold Ru.base; omega
      have HX := Lib.hid hx
      have HC := Lib.hid hc
      have HP := Lib.hid hp
      have HL := Lib.hid hl
      clear hx hc hp hl
      go_enter Tryz.func57, Tryz.ntmps57
      go_wp2_with fail
      go_loop [7, 8, 9] (fun v7 v8 v9 => SpanAt k 2 l v7 v8 v9) (fun _ _ v9 => 2 - (RowKit.intOf v9).toNat)
      case atStart => exact ⟨0, by omega, rfl, by rw [Ru.spLo, HX.out], by rw [Ru.spHi, HX.out], Lib.hid (Ru.okC_zero _ _)⟩
      case round =>
        obtain ⟨j, hj, rfl, rfl, rfl, ho⟩ := hrel
        have hbd := span_loop k 2 l (by omega) HC.out j (by omega) ho.out
        obtain ⟨q1, q2, q3⟩ := hbd
        by_cases hlt : j + 1 < 2
        · by_cases hk : j + 1 < k
          · have hcell := HP.out (j + 1) hk
            have hy := HL.out.at_ (j + 1)
            obtain ⟨p1, p2⟩ := hy
            have HN := Lib.hid (span_yes (l := l) (x := Ru.base (Ru.g l 0)) hk)
            generalize Ru.spLo k l (Ru.base (Ru.g l 0)) j = lo at *
            generalize Ru.spHi k l (Ru.base (Ru.g l 0)) j = hi at *
            clear HP HL HC HX
            by_cases d1 : Ru.g l (j + 1) < 128
            · go_wp2_with fail
              go_ret2
              exact ⟨fun h => absurd (h.2 (j + 1) (by omega) (by omega) hk) (by omega), fun _ => rfl, rfl⟩
            · by_cases d2 : 191 < Ru.g l (j + 1)
              · go_wp2_with fail
                go_ret2
                exact ⟨fun h => absurd (h.2 (j + 1) (by omega) (by omega) hk) (by omega), fun _ => rfl, rfl⟩
              · go_wp2_with fail
                go_round
                case rel => exact ⟨j + 1, by omega, by go_num, congrArg (Value.int .i64) (by rw [HN.out.1]), congrArg (Value.int .i64) (by rw [HN.out.2]), Lib.hid (Ru.okC_next ho.out fun _ => by omega)⟩
                case measure => simp [RowKit.intOf]; omega
          · have HN := Lib.hid (span_not (l := l) (x := Ru.base (Ru.g l 0)) hk)
            generalize Ru.spLo k l (Ru.base (Ru.g l 0)) j = lo at *
            generalize Ru.spHi k l (Ru.base (Ru.g l 0)) j = hi at *
            clear HP HL HC HX
            go_wp2_with fail
            go_round
            case rel => exact ⟨j + 1, by omega, by go_num, congrArg (Value.int .i64) (by rw [HN.out.1]), congrArg (Value.int .i64) (by rw [HN.out.2]), Lib.hid (Ru.okC_next ho.out fun h => absurd h hk)⟩
            case measure => simp [RowKit.intOf]; omega
        · obtain rfl : j = 2 - 1 := by omega
          clear HP HL HX
          go_wp2_with fail
          go_ret2
          exact ⟨fun _ => rfl, fun h => absurd ⟨HC.out, ho.out⟩ h, rfl⟩
    · go_enter Tryz.func57, Tryz.ntmps57
      go_wp2_with fail
      go_ret2
      exact ⟨fun h => absurd h.1 (by unfold Ru.cls; omega), fun _ => rfl, rfl⟩
  · go_enter Tryz.func57, Tryz.ntmps57
    go_wp2_with fail
    go_ret2
    exact ⟨fun h => absurd h.1 (by unfold Ru.cls; omega), fun _ => rfl, rfl⟩

set_option maxHeartbeats 2000000 in
set_option maxRecDepth 100000 in
theorem span_three (k : Nat) (l : List Int) (b off cap : Nat) (w : World) (h1 : 1 ≤ k) (hl : Ru.By l) (hm : k ≤ 9223372036854775807) (hp : ∀ j, j < k → w.cell? ⟨b, off + j, none⟩ = some (.int .u8 (Ru.g l j))) :
    Calls Tryz.prog 57 #[.slice (some ⟨b, off, none⟩) k cap, .int .i64 3] w (Spanned k 3 l w) := by
  have h0 := hp 0 (by omega)
  rw [Nat.add_zero] at h0
  have y0 := hl.at_ 0
  by_cases c1 : 224 ≤ Ru.g l 0
  · by_cases c2 : Ru.g l 0 < 240
    · have hc : Ru.cls 3 (Ru.g l 0) := by unfold Ru.cls; omega
      have hx : Ru.base (Ru.g l 0) = Ru.g l 0 - 224 := by unfold Ru.base; omega
      have HX := Lib.hid hx
      have HC := Lib.hid hc
      have HP := Lib.hid hp
      have HL := Lib.hid hl
      clear hx hc hp hl
      go_enter Tryz.func57, Tryz.ntmps57
      go_wp2_with fail
      go_loop [7, 8, 9] (fun v7 v8 v9 => SpanAt k 3 l v7 v8 v9) (fun _ _ v9 => 3 - (RowKit.intOf v9).toNat)
      case atStart => exact ⟨0, by omega, rfl, by rw [Ru.spLo, HX.out], by rw [Ru.spHi, HX.out], Lib.hid (Ru.okC_zero _ _)⟩
      case round =>
        obtain ⟨j, hj, rfl, rfl, rfl, ho⟩ := hrel
        have hbd := span_loop k 3 l (by omega) HC.out j (by omega) ho.out
        obtain ⟨q1, q2, q3⟩ := hbd
        by_cases hlt : j + 1 < 3
        · by_cases hk : j + 1 < k
          · have hcell := HP.out (j + 1) hk
            have hy := HL.out.at_ (j + 1)
            obtain ⟨p1, p2⟩ := hy
            have HN := Lib.hid (span_yes (l := l) (x := Ru.base (Ru.g l 0)) hk)
            generalize Ru.spLo k l (Ru.base (Ru.g l 0)) j = lo at *
            generalize Ru.spHi k l (Ru.base (Ru.g l 0)) j = hi at *
            clear HP HL HC HX
            by_cases d1 : Ru.g l (j + 1) < 128
            · go_wp2_with fail
              go_ret2
              exact ⟨fun h => absurd (h.2 (j + 1) (by omega) (by omega) hk) (by omega), fun _ => rfl, rfl⟩
            · by_cases d2 : 191 < Ru.g l (j + 1)
              · go_wp2_with fail
                go_ret2
                exact ⟨fun h => absurd (h.2 (j + 1) (by omega) (by omega) hk) (by omega), fun _ => rfl, rfl⟩
              · go_wp2_with fail
                go_round
                case rel => exact ⟨j + 1, by omega, by go_num, congrArg (Value.int .i64) (by rw [HN.out.1]), congrArg (Value.int .i64) (by rw [HN.out.2]), Lib.hid (Ru.okC_next ho.out fun _ => by omega)⟩
                case measure => simp [RowKit.intOf]; omega
          · have HN := Lib.hid (span_not (l := l) (x := Ru.base (Ru.g l 0)) hk)
            generalize Ru.spLo k l (Ru.base (Ru.g l 0)) j = lo at *
            generalize Ru.spHi k l (Ru.base (Ru.g l 0)) j = hi at *
            clear HP HL HC HX
            go_wp2_with fail
            go_round
            case rel => exact ⟨j + 1, by omega, by go_num, congrArg (Value.int .i64) (by rw [HN.out.1]), congrArg (Value.int .i64) (by rw [HN.out.2]), Lib.hid (Ru.okC_next ho.out fun h => absurd h hk)⟩
            case measure => simp [RowKit.intOf]; omega
        · obtain rfl : j = 3 - 1 := by omega
          clear HP HL HX
          go_wp2_with fail
          go_ret2
          exact ⟨fun _ => rfl, fun h => absurd ⟨HC.out, ho.out⟩ h, rfl⟩
    · go_enter Tryz.func57, Tryz.ntmps57
      go_wp2_with fail
      go_ret2
      exact ⟨fun h => absurd h.1 (by unfold Ru.cls; omega), fun _ => rfl, rfl⟩
  · go_enter Tryz.func57, Tryz.ntmps57
    go_wp2_with fail
    go_ret2
    exact ⟨fun h => absurd h.1 (by unfold Ru.cls; omega), fun _ => rfl, rfl⟩

set_option maxHeartbeats 2000000 in
set_option maxRecDepth 100000 in
theorem span_four (k : Nat) (l : List Int) (b off cap : Nat) (w : World) (h1 : 1 ≤ k) (hl : Ru.By l) (hm : k ≤ 9223372036854775807) (hp : ∀ j, j < k → w.cell? ⟨b, off + j, none⟩ = some (.int .u8 (Ru.g l j))) :
    Calls Tryz.prog 57 #[.slice (some ⟨b, off, none⟩) k cap, .int .i64 4] w (Spanned k 4 l w) := by
  have h0 := hp 0 (by omega)
  rw [Nat.add_zero] at h0
  have y0 := hl.at_ 0
  by_cases c1 : 240 ≤ Ru.g l 0
  · by_cases c2 : Ru.g l 0 < 248
    · have hc : Ru.cls 4 (Ru.g l 0) := by unfold Ru.cls; omega
      have hx : Ru.base (Ru.g l 0) = Ru.g l 0 - 240 := by unfold Ru.base; omega
      have HX := Lib.hid hx
      have HC := Lib.hid hc
      have HP := Lib.hid hp
      have HL := Lib.hid hl
      clear hx hc hp hl
      go_enter Tryz.func57, Tryz.ntmps57
      go_wp2_with fail
      go_loop [7, 8, 9] (fun v7 v8 v9 => SpanAt k 4 l v7 v8 v9) (fun _ _ v9 => 4 - (RowKit.intOf v9).toNat)
      case atStart => exact ⟨0, by omega, rfl, by rw [Ru.spLo, HX.out], by rw [Ru.spHi, HX.out], Lib.hid (Ru.okC_zero _ _)⟩
      case round =>
        obtain ⟨j, hj, rfl, rfl, rfl, ho⟩ := hrel
        have hbd := span_loop k 4 l (by omega) HC.out j (by omega) ho.out
        obtain ⟨q1, q2, q3⟩ := hbd
        by_cases hlt : j + 1 < 4
        · by_cases hk : j + 1 < k
          · have hcell := HP.out (j + 1) hk
            have hy := HL.out.at_ (j + 1)
            obtain ⟨p1, p2⟩ := hy
            have HN := Lib.hid (span_yes (l := l) (x := Ru.base (Ru.g l 0)) hk)
            generalize Ru.spLo k l (Ru.base (Ru.g l 0)) j = lo at *
            generalize Ru.spHi k l (Ru.base (Ru.g l 0)) j = hi at *
            clear HP HL HC HX
            by_cases d1 : Ru.g l (j + 1) < 128
            · go_wp2_with fail
              go_ret2
              exact ⟨fun h => absurd (h.2 (j + 1) (by omega) (by omega) hk) (by omega), fun _ => rfl, rfl⟩
            · by_cases d2 : 191 < Ru.g l (j + 1)
              · go_wp2_with fail
                go_ret2
                exact ⟨fun h => absurd (h.2 (j + 1) (by omega) (by omega) hk) (by omega), fun _ => rfl, rfl⟩
              · go_wp2_with fail
                go_round
                case rel => exact ⟨j + 1, by omega, by go_num, congrArg (Value.int .i64) (by rw [HN.out.1]), congrArg (Value.int .i64) (by rw [HN.out.2]), Lib.hid (Ru.okC_next ho.out fun _ => by omega)⟩
                case measure => simp [RowKit.intOf]; omega
          · have HN := Lib.hid (span_not (l := l) (x := Ru.base (Ru.g l 0)) hk)
            generalize Ru.spLo k l (Ru.base (Ru.g l 0)) j = lo at *
            generalize Ru.spHi k l (Ru.base (Ru.g l 0)) j = hi at *
            clear HP HL HC HX
            go_wp2_with fail
            go_round
            case rel => exact ⟨j + 1, by omega, by go_num, congrArg (Value.int .i64) (by rw [HN.out.1]), congrArg (Value.int .i64) (by rw [HN.out.2]), Lib.hid (Ru.okC_next ho.out fun h => absurd h hk)⟩
            case measure => simp [RowKit.intOf]; omega
        · obtain rfl : j = 4 - 1 := by omega
          clear HP HL HX
          go_wp2_with fail
          go_ret2
          exact ⟨fun _ => rfl, fun h => absurd ⟨HC.out, ho.out⟩ h, rfl⟩
    · go_enter Tryz.func57, Tryz.ntmps57
      go_wp2_with fail
      go_ret2
      exact ⟨fun h => absurd h.1 (by unfold Ru.cls; omega), fun _ => rfl, rfl⟩
  · go_enter Tryz.func57, Tryz.ntmps57
    go_wp2_with fail
    go_ret2
    exact ⟨fun h => absurd h.1 (by unfold Ru.cls; omega), fun _ => rfl, rfl⟩
end Go.Proofs.YtppgklmliklkkaaGreatDoor

/-
  The walk of the reference's begins.
-/
namespace Go.Proofs.YtppgklmliklkkaaGreatDoor
open Go.RowKit

namespace Ru
/-- do the first k bytes begin some character's of length L? -/
def bgB (n k : Nat) (L : Int) (l : List Int) : Bool := decide (L = need (g l 0) ∧ (k : Int) ≤ mm n (g l 0) (g l 1) (g l 2) (g l 3))
end Ru

set_option maxHeartbeats 2000000 in
set_option maxRecDepth 100000 in
theorem begins_two (n k : Nat) (l : List Int) (b off cap : Nat) (w : World) (h1 : 1 ≤ k) (hkL : k ≤ 2) (hkn : k ≤ n) (hl : Ru.By l) (hp : ∀ j, j < k → w.cell? ⟨b, off + j, none⟩ = some (.int .u8 (Ru.g l j))) :
    Calls Tryz.prog 56 #[.slice (some ⟨b, off, none⟩) k cap, .int .i64 2] w fun e w' => e = .returned (.bool (Ru.bgB n k 2 l)) ∧ w = w' := by
  have hiff := Ru.bg_two n k l h1 hkL hkn
  have C := Lib.hid (span_two k l b off cap w h1 hl (by omega) hp)
  clear hp
  by_cases hs : Ru.cls 2 (Ru.g l 0) ∧ Ru.okC k l (2 - 1)
  · have hb := span_loop k 2 l (by omega) hs.1 (2 - 1) (by omega) hs.2
    have C' : Hid (Calls Tryz.prog 57 #[.slice (some ⟨b, off, none⟩) k cap, .int .i64 2] w fun e w' => e = .returned (.tuple #[.int .i64 (Ru.spLo k l (Ru.base (Ru.g l 0)) (2 - 1)), .int .i64 (Ru.spHi k l (Ru.base (Ru.g l 0)) (2 - 1))]) ∧ w = w') := Lib.hid (C.out.mono fun _ _ h => ⟨h.1 hs, h.2.2⟩)
    have hr : Ru.bgB n k 2 l = true ↔ Ru.room 2 (Ru.spLo k l (Ru.base (Ru.g l 0)) (2 - 1)) (Ru.spHi k l (Ru.base (Ru.g l 0)) (2 - 1)) := by
      unfold Ru.bgB
      rw [decide_eq_true_iff, ← hiff]
      exact ⟨fun h => h.2.2, fun h => ⟨hs.1, hs.2, h⟩⟩
    rw [Ru.room_two] at hr
    generalize Ru.spLo k l (Ru.base (Ru.g l 0)) (2 - 1) = lo at *
    generalize Ru.spHi k l (Ru.base (Ru.g l 0)) (2 - 1) = hi at *
    have HR := Lib.hid hr
    clear hr C hiff hs hl
    obtain ⟨q1, q2, q3⟩ := hb
    go_enter Tryz.func56, Tryz.ntmps56
    go_wp2_with (go_at_call 57; ((with_reducible refine (C'.out).mono ?_); rintro e w' ⟨rfl, rfl⟩))
    all_goals
      go_ret
      exact ⟨ret_bool (by rw [Bool.eq_iff_iff, HR.out]; simp only [decide_eq_true_iff]; first | omega | (simp only [true_iff]; omega) | (simp only [false_iff]; omega)), rfl⟩
  · have C' : Hid (Calls Tryz.prog 57 #[.slice (some ⟨b, off, none⟩) k cap, .int .i64 2] w fun e w' => e = .returned (.tuple #[.int .i64 (-1), .int .i64 (-1)]) ∧ w = w') := Lib.hid (C.out.mono fun _ _ h => ⟨h.2.1 hs, h.2.2⟩)
    have HR : Ru.bgB n k 2 l = false := decide_eq_false fun h => hs ⟨(hiff.2 h).1, (hiff.2 h).2.1⟩
    rw [HR]
    clear HR C hiff hs hl
    go_enter Tryz.func56, Tryz.ntmps56
    go_wp2_with (go_at_call 57; ((with_reducible refine (C'.out).mono ?_); rintro e w' ⟨rfl, rfl⟩))
    go_ret
    exact ⟨rfl, rfl⟩

set_option maxHeartbeats 2000000 in
set_option maxRecDepth 100000 in
theorem begins_three (n k : Nat) (l : List Int) (b off cap : Nat) (w : World) (h1 : 1 ≤ k) (hkL : k ≤ 3) (hkn : k ≤ n) (hl : Ru.By l) (hp : ∀ j, j < k → w.cell? ⟨b, off + j, none⟩ = some (.int .u8 (Ru.g l j))) :
    Calls Tryz.prog 56 #[.slice (some ⟨b, off, none⟩) k cap, .int .i64 3] w fun e w' => e = .returned (.bool (Ru.bgB n k 3 l)) ∧ w = w' := by
  have hiff := Ru.bg_three n k l h1 hkL hkn
  have C := Lib.hid (span_three k l b off cap w h1 hl (by omega) hp)
  clear hp
  by_cases hs : Ru.cls 3 (Ru.g l 0) ∧ Ru.okC k l (3 - 1)
  · have hb := span_loop k 3 l (by omega) hs.1 (3 - 1) (by omega) hs.2
    have C' : Hid (Calls Tryz.prog 57 #[.slice (some ⟨b, off, none⟩) k cap, .int .i64 3] w fun e w' => e = .returned (.tuple #[.int .i64 (Ru.spLo k l (Ru.base (Ru.g l 0)) (3 - 1)), .int .i64 (Ru.spHi k l (Ru.base (Ru.g l 0)) (3 - 1))]) ∧ w = w') := Lib.hid (C.out.mono fun _ _ h => ⟨h.1 hs, h.2.2⟩)
    have hr : Ru.bgB n k 3 l = true ↔ Ru.room 3 (Ru.spLo k l (Ru.base (Ru.g l 0)) (3 - 1)) (Ru.spHi k l (Ru.base (Ru.g l 0)) (3 - 1)) := by
      unfold Ru.bgB
      rw [decide_eq_true_iff, ← hiff]
      exact ⟨fun h => h.2.2, fun h => ⟨hs.1, hs.2, h⟩⟩
    rw [Ru.room_three] at hr
    generalize Ru.spLo k l (Ru.base (Ru.g l 0)) (3 - 1) = lo at *
    generalize Ru.spHi k l (Ru.base (Ru.g l 0)) (3 - 1) = hi at *
    have HR := Lib.hid hr
    clear hr C hiff hs hl
    obtain ⟨q1, q2, q3⟩ := hb
    go_enter Tryz.func56, Tryz.ntmps56
    go_wp2_with (go_at_call 57; ((with_reducible refine (C'.out).mono ?_); rintro e w' ⟨rfl, rfl⟩))
    all_goals
      go_ret
      exact ⟨ret_bool (by rw [Bool.eq_iff_iff, HR.out]; simp only [decide_eq_true_iff]; first | omega | (simp only [true_iff]; omega) | (simp only [false_iff]; omega)), rfl⟩
  · have C' : Hid (Calls Tryz.prog 57 #[.slice (some ⟨b, off, none⟩) k cap, .int .i64 3] w fun e w' => e = .returned (.tuple #[.int .i64 (-1), .int .i64 (-1)]) ∧ w = w') := Lib.hid (C.out.mono fun _ _ h => ⟨h.2.1 hs, h.2.2⟩)
    have HR : Ru.bgB n k 3 l = false := decide_eq_false fun h => hs ⟨(hiff.2 h).1, (hiff.2 h).2.1⟩
    rw [HR]
    clear HR C hiff hs hl
    go_enter Tryz.func56, Tryz.ntmps56
    go_wp2_with (go_at_call 57; ((with_reducible refine (C'.out).mono ?_); rintro e w' ⟨rfl, rfl⟩))
    go_ret
    exact ⟨rfl, rfl⟩

set_option maxHeartbeats 2000000 in
set_option maxRecDepth 100000 in
theorem begins_four (n k : Nat) (l : List Int) (b off cap : Nat) (w : World) (h1 : 1 ≤ k) (hkL : k ≤ 4) (hkn : k ≤ n) (hl : Ru.By l) (hp : ∀ j, j < k → w.cell? ⟨b, off + j, none⟩ = some (.int .u8 (Ru.g l j))) :
    Calls Tryz.prog 56 #[.slice (some ⟨b, off, none⟩) k cap, .int .i64 4] w fun e w' => e = .returned (.bool (Ru.bgB n k 4 l)) ∧ w = w' := by
  have hiff := Ru.bg_four n k l h1 hkL hkn
  have C := Lib.hid (span_four k l b off cap w h1 hl (by omega) hp)
  clear hp
  by_cases hs : Ru.cls 4 (Ru.g l 0) ∧ Ru.okC k l (4 - 1)
  · have hb := span_loop k 4 l (by omega) hs.1 (4 - 1) (by omega) hs.2
    have C' : Hid (Calls Tryz.prog 57 #[.slice (some ⟨b, off, none⟩) k cap, .int .i64 4] w fun e w' => e = .returned (.tuple #[.int .i64 (Ru.spLo k l (Ru.base (Ru.g l 0)) (4 - 1)), .int .i64 (Ru.spHi k l (Ru.base (Ru.g l 0)) (4 - 1))]) ∧ w = w') := Lib.hid (C.out.mono fun _ _ h => ⟨h.1 hs, h.2.2⟩)
    have hr : Ru.bgB n k 4 l = true ↔ Ru.room 4 (Ru.spLo k l (Ru.base (Ru.g l 0)) (4 - 1)) (Ru.spHi k l (Ru.base (Ru.g l 0)) (4 - 1)) := by
      unfold Ru.bgB
      rw [decide_eq_true_iff, ← hiff]
      exact ⟨fun h => h.2.2, fun h => ⟨hs.1, hs.2, h⟩⟩
    rw [Ru.room_four] at hr
    generalize Ru.spLo k l (Ru.base (Ru.g l 0)) (4 - 1) = lo at *
    generalize Ru.spHi k l (Ru.base (Ru.g l 0)) (4 - 1) = hi at *
    have HR := Lib.hid hr
    clear hr C hiff hs hl
    obtain ⟨q1, q2, q3⟩ := hb
    go_enter Tryz.func56, Tryz.ntmps56
    go_wp2_with (go_at_call 57; ((with_reducible refine (C'.out).mono ?_); rintro e w' ⟨rfl, rfl⟩))
    all_goals
      go_ret
      exact ⟨ret_bool (by rw [Bool.eq_iff_iff, HR.out]; simp only [decide_eq_true_iff]; first | omega | (simp only [true_iff]; omega) | (simp only [false_iff]; omega)), rfl⟩
  · have C' : Hid (Calls Tryz.prog 57 #[.slice (some ⟨b, off, none⟩) k cap, .int .i64 4] w fun e w' => e = .returned (.tuple #[.int .i64 (-1), .int .i64 (-1)]) ∧ w = w') := Lib.hid (C.out.mono fun _ _ h => ⟨h.2.1 hs, h.2.2⟩)
    have HR : Ru.bgB n k 4 l = false := decide_eq_false fun h => hs ⟨(hiff.2 h).1, (hiff.2 h).2.1⟩
    rw [HR]
    clear HR C hiff hs hl
    go_enter Tryz.func56, Tryz.ntmps56
    go_wp2_with (go_at_call 57; ((with_reducible refine (C'.out).mono ?_); rintro e w' ⟨rfl, rfl⟩))
    go_ret
    exact ⟨rfl, rfl⟩
end Go.Proofs.YtppgklmliklkkaaGreatDoor

/-
  The walk of the reference's Next: the first character.
-/
namespace Go.Proofs.YtppgklmliklkkaaGreatDoor
open Go.RowKit

namespace Ru
theorem val_sp (l : List Int) (L : Nat) (hL : (L : Int) = need (g l 0)) (h0 : L ≠ 0) (hc : cls L (g l 0)) (ho : okC L l (L - 1)) : spLo L l (base (g l 0)) (L - 1) = val (g l 0) (g l 1) (g l 2) (g l 3) := by
  have hcase := need_case (g l 0)
  obtain ⟨s1, -⟩ := sp_two L l (base (g l 0))
  obtain ⟨s3, -⟩ := sp_three L l (base (g l 0))
  obtain ⟨s5, -⟩ := sp_four L l (base (g l 0))
  have ok := (okC_three L l (L - 1) (by omega)).1 ho
  unfold cls at hc
  rcases (show L = 2 ∨ L = 3 ∨ L = 4 by omega) with rfl | rfl | rfl
  · have hx : base (g l 0) = g l 0 - 192 := by unfold base; omega
    unfold val
    rw [← hL, show (2 : Nat) - 1 = 1 from rfl, s1, if_pos (by omega), hx]
    rw [if_pos (by omega)]
    omega
  · have hx : base (g l 0) = g l 0 - 224 := by unfold base; omega
    unfold val
    rw [← hL, show (3 : Nat) - 1 = 2 from rfl, s3, if_pos (by omega), s1, if_pos (by omega), hx]
    rw [if_neg (by omega), if_pos (by omega)]
    omega
  · have hx : base (g l 0) = g l 0 - 240 := by unfold base; omega
    unfold val
    rw [← hL, show (4 : Nat) - 1 = 3 from rfl, s5, if_pos (by omega), s3, if_pos (by omega), s1, if_pos (by omega), hx]
    rw [if_neg (by omega), if_neg (by omega)]
    omega

def res (s m v : Int) : Int := if s ≠ 0 ∧ m = s then v else 65533
def wid (m : Int) : Int := if m = 0 then 1 else m
theorem res_yes {s m v : Int} (h : s ≠ 0 ∧ m = s) : res s m v = v := if_pos h
theorem res_no {s m v : Int} (h : ¬ (s ≠ 0 ∧ m = s)) : res s m v = 65533 := if_neg h
/-- what the longest beginning is so far, ahead of length L -/
def BestOut (s m L x : Int) : Prop := (s < L → (x = m ∨ (m = 0 ∧ x = 1)) ∧ (s ≠ 0 → m < s)) ∧ (¬ s < L → x = 1) ∧ 1 ≤ x ∧ x ≤ 4
/-- .. of the first K - 1 bytes -/
def BestIn (s m n L K x : Int) : Prop := (L = s → ((K = 1 ∧ x = 1) ∨ (2 ≤ K ∧ x = K - 1)) ∧ K - 1 ≤ m ∧ K ≤ L) ∧ (L ≠ s → K = 1 ∧ BestOut s m L x) ∧ 1 ≤ K ∧ K ≤ n + 1 ∧ 1 ≤ x ∧ x ≤ 4
end Ru

/-- at the head of the loop over lengths, and over places -/
def NextOut (s m : Int) (v4 v5 : Value) : Prop := ∃ (L : Nat) (x : Int), 2 ≤ L ∧ L ≤ 5 ∧ v5 = .int .i64 L ∧ v4 = .int .i64 x ∧ Hid (Ru.BestOut s m L x)
def NextIn (s m : Int) (n L : Nat) (v4 v6 : Value) : Prop := ∃ (K : Nat) (x : Int), v6 = .int .i64 K ∧ v4 = .int .i64 x ∧ 1 ≤ K ∧ K ≤ 5 ∧ K ≤ n + 1 ∧ 1 ≤ x ∧ x ≤ 4 ∧ Hid (Ru.BestIn s m n L K x)
/-- what a span tells first -/
def FirstIs (v : Int) (w : World) (e : Ending) (w' : World) : Prop := ∃ h : Int, e = .returned (.tuple #[.int .i64 v, .int .i64 h]) ∧ w = w'

set_option maxHeartbeats 4000000 in
set_option maxRecDepth 100000 in
theorem next_high (n : Nat) (b off cap : Nat) (w : World) (s m v : Int) (h1 : 1 ≤ n) (hm : n ≤ 9223372036854775807) (hcap : n ≤ cap) (a : Int) (ha : 128 ≤ a ∧ a < 256) (h0 : w.cell? ⟨b, off, none⟩ = some (.int .u8 a))
    (hs : s = 0 ∨ s = 2 ∨ s = 3 ∨ s = 4) (hmb : 0 ≤ m ∧ m ≤ s ∧ m ≤ n) (hm1 : s ≠ 0 → 1 ≤ m)
    (CB : Hid (∀ K L : Nat, 1 ≤ K → K ≤ L → K ≤ n → 2 ≤ L → L ≤ 4 → Calls Tryz.prog 56 #[.slice (some ⟨b, off, none⟩) K cap, .int .i64 L] w fun e w' => e = .returned (.bool (decide ((L : Int) = s ∧ (K : Int) ≤ m))) ∧ w = w'))
    (CS : Hid (∀ L : Nat, 2 ≤ L → (L : Int) = s → m = s → Calls Tryz.prog 57 #[.slice (some ⟨b, off, none⟩) L cap, .int .i64 L] w (FirstIs v w))) :
    Calls Tryz.prog 31 #[.slice (some ⟨b, off, none⟩) n cap] w fun e w' => e = .returned (.tuple #[.int .i64 (Ru.res s m v), .int .i64 (Ru.wid m)]) ∧ w = w' := by
  have hna : ¬ a < 128 := by omega
  have HM := Lib.hid (And.intro hs (And.intro hmb hm1))
  clear hs hmb hm1
  go_enter Tryz.func31, Tryz.ntmps31
  go_wp2_with fail
  go_loop [4, 5] (fun v4 v5 => NextOut s m v4 v5) (fun _ v5 => 5 - (RowKit.intOf v5).toNat)
  case atStart => exact ⟨2, 1, by omega, by omega, rfl, rfl, Lib.hid (by have := HM.out; unfold Ru.BestOut; omega)⟩
  case round =>
    obtain ⟨L, x, L1, L2, rfl, rfl, HO⟩ := hrel
    by_cases hL : L ≤ 4
    · go_wp2_with fail
      go_loop [4, 6] (fun v4 v6 => NextIn s m n L v4 v6) (fun _ v6 => L + 1 - (RowKit.intOf v6).toNat)
      case atStart => exact ⟨1, x, rfl, rfl, by omega, by omega, by omega, by have := HO.out; unfold Ru.BestOut at this; omega, by have := HO.out; unfold Ru.BestOut at this; omega, Lib.hid (by have := HO.out; have := HM.out; unfold Ru.BestOut Ru.BestIn at *; unfold Ru.BestOut; omega)⟩
      case round =>
        obtain ⟨K, y, rfl, rfl, k1, k2, k3, y1, y2, HI⟩ := hrel
        by_cases hK : K ≤ L ∧ K ≤ n
        · obtain ⟨g1, g2⟩ := hK
          have CK := CB.out K L k1 g1 g2 L1 hL
          by_cases hc : (L : Int) = s ∧ (K : Int) ≤ m
          · rw [decide_eq_true hc] at CK
            by_cases hKL : K = L
            · subst hKL
              have hms : m = s := by have := HM.out; omega
              have CSK := Lib.hid (CS.out K L1 hc.1 hms)
              have eK : ((K : Int) == (K : Int)) = true := Ru.eq_t rfl
              have HC := Lib.hid (And.intro hc hms)
              have CK' := Lib.hid CK
              clear CK CB CS hc hms
              go_wp2_with (first | (go_at_call 56; ((with_reducible refine (CK'.out).mono ?_); rintro e w' ⟨rfl, rfl⟩)) | (go_at_call 57; ((with_reducible refine (CSK.out).mono ?_); rintro e w' ⟨h, rfl, rfl⟩)))
              go_ret2
              exact ⟨ret_two (Ru.res_yes (by have h1 := HC.out; have h2 := HM.out; omega)).symm (by have h1 := HC.out; have h2 := HM.out; unfold Ru.wid; omega), rfl⟩
            · have eK : ((K : Int) == (L : Int)) = false := Ru.eq_f (by omega)
              have HC := Lib.hid hc
              have CK' := Lib.hid CK
              clear CK CB CS hc
              have hlt : K < L := by omega
              go_wp2_with (go_at_call 56; ((with_reducible refine (CK'.out).mono ?_); rintro e w' ⟨rfl, rfl⟩))
              go_round
              case rel => exact ⟨K + 1, max y K, by go_num, rfl, by omega, by omega, by omega, by omega, by omega, Lib.hid (by have h1 := HC.out; have h2 := HM.out; have h3 := HI.out; unfold Ru.BestIn Ru.BestOut at *; omega)⟩
              case measure => simp [RowKit.intOf]; omega
          · rw [decide_eq_false hc] at CK
            have HC := Lib.hid hc
            have CK' := Lib.hid CK
            clear CK CB CS hc
            go_wp2_with (go_at_call 56; ((with_reducible refine (CK'.out).mono ?_); rintro e w' ⟨rfl, rfl⟩))
            go_round
            case rel => exact ⟨L + 1, y, by omega, by omega, by go_num, rfl, Lib.hid (by have h1 := HC.out; have h2 := HM.out; have h3 := HI.out; unfold Ru.BestIn Ru.BestOut at *; omega)⟩
            case measure => simp [RowKit.intOf]; omega
        · clear CB CS
          by_cases g1 : K ≤ L
          all_goals
            go_wp2_with fail
            go_round
            case rel => exact ⟨L + 1, y, by omega, by omega, by go_num, rfl, Lib.hid (by have h2 := HM.out; have h3 := HI.out; unfold Ru.BestIn Ru.BestOut at *; omega)⟩
            case measure => simp [RowKit.intOf]; omega
    · obtain rfl : L = 5 := by omega
      clear CB CS
      go_wp2_with fail
      go_ret2
      exact ⟨ret_two (Ru.res_no (by have h2 := HM.out; have h3 := HO.out; unfold Ru.BestOut at h3; omega)).symm (by have h2 := HM.out; have h3 := HO.out; unfold Ru.BestOut at h3; unfold Ru.wid; omega), rfl⟩
end Go.Proofs.YtppgklmliklkkaaGreatDoor

/-
  The walk of the reference's Next, over the bytes of a list.
-/
namespace Go.Proofs.YtppgklmliklkkaaGreatDoor
open Go.RowKit

set_option maxHeartbeats 400000 in
theorem rnext_any (l : List Int) (hl : Ru.By l) (h0 : l ≠ []) (b off cap : Nat) (w : World) (hm : l.length ≤ 9223372036854775807) (hcap : l.length ≤ cap) (hp : ∀ j, j < l.length → w.cell? ⟨b, off + j, none⟩ = some (.int .u8 (Ru.g l j))) :
    Calls Tryz.prog 31 #[.slice (some ⟨b, off, none⟩) l.length cap] w fun e w' => e = .returned (.tuple #[.int .i64 (Ru.chL l), .int .i64 (Ru.wdL l : Nat)]) ∧ w = w' := by
  have hlen := Ru.len_pos h0
  have y0 := hl.at_ 0
  have hc0 := hp 0 (by omega)
  rw [Nat.add_zero] at hc0
  rw [Ru.wdL_int h0]
  by_cases ha : Ru.g l 0 < 128
  · have e1 : Ru.chL l = Ru.g l 0 := by unfold Ru.chL Ru.ch; rw [if_pos ha]
    have e2 : Ru.wd l.length (Ru.g l 0) (Ru.g l 1) (Ru.g l 2) (Ru.g l 3) = 1 := by unfold Ru.wd; rw [if_pos ha]
    rw [e1, e2]
    generalize Ru.g l 0 = a at *
    generalize l.length = n at *
    clear hp e1 e2 h0 hl
    go_enter Tryz.func31, Tryz.ntmps31
    go_wp2_with fail
    go_ret2
    exact ⟨rfl, rfl⟩
  · have hmm := Ru.mm_le l.length (Ru.g l 0) (Ru.g l 1) (Ru.g l 2) (Ru.g l 3) (by omega)
    have e1 : Ru.chL l = Ru.res (Ru.need (Ru.g l 0)) (Ru.mm l.length (Ru.g l 0) (Ru.g l 1) (Ru.g l 2) (Ru.g l 3)) (Ru.val (Ru.g l 0) (Ru.g l 1) (Ru.g l 2) (Ru.g l 3)) := by unfold Ru.chL Ru.ch Ru.res; rw [if_neg ha]
    have e2 : Ru.wd l.length (Ru.g l 0) (Ru.g l 1) (Ru.g l 2) (Ru.g l 3) = Ru.wid (Ru.mm l.length (Ru.g l 0) (Ru.g l 1) (Ru.g l 2) (Ru.g l 3)) := by unfold Ru.wd Ru.wid; rw [if_neg ha]
    rw [e1, e2]
    refine next_high l.length b off cap w _ _ _ hlen hm hcap (Ru.g l 0) (by omega) hc0 (Ru.need_case _) hmm (fun h => Ru.mm_one h) (Lib.hid fun K L k1 k2 k3 l1 l2 => ?_) (Lib.hid fun L l1 hs hms => ?_)
    · rcases (show L = 2 ∨ L = 3 ∨ L = 4 by omega) with rfl | rfl | rfl
      · exact begins_two l.length K l b off cap w k1 (by omega) k3 hl (fun j hj => hp j (by omega))
      · exact begins_three l.length K l b off cap w k1 (by omega) k3 hl (fun j hj => hp j (by omega))
      · exact begins_four l.length K l b off cap w k1 (by omega) k3 hl (fun j hj => hp j (by omega))
    · rw [← hs] at hmm
      rcases (show L = 2 ∨ L = 3 ∨ L = 4 by have := Ru.need_case (Ru.g l 0); omega) with rfl | rfl | rfl
      · have hb := (Ru.bg_two l.length 2 l (by omega) (by omega) (by omega)).2 ⟨hs, by omega⟩
        have hv := Ru.val_sp l 2 hs (by omega) hb.1 hb.2.1
        exact (span_two 2 l b off cap w (by omega) hl (by omega) (fun j hj => hp j (by omega))).mono fun e w' h => ⟨_, (h.1 ⟨hb.1, hb.2.1⟩).trans (ret_two hv rfl), h.2.2⟩
      · have hb := (Ru.bg_three l.length 3 l (by omega) (by omega) (by omega)).2 ⟨hs, by omega⟩
        have hv := Ru.val_sp l 3 hs (by omega) hb.1 hb.2.1
        exact (span_three 3 l b off cap w (by omega) hl (by omega) (fun j hj => hp j (by omega))).mono fun e w' h => ⟨_, (h.1 ⟨hb.1, hb.2.1⟩).trans (ret_two hv rfl), h.2.2⟩
      · have hb := (Ru.bg_four l.length 4 l (by omega) (by omega) (by omega)).2 ⟨hs, by omega⟩
        have hv := Ru.val_sp l 4 hs (by omega) hb.1 hb.2.1
        exact (span_four 4 l b off cap w (by omega) hl (by omega) (fun j hj => hp j (by omega))).mono fun e w' h => ⟨_, (h.1 ⟨hb.1, hb.2.1⟩).trans (ret_two hv rfl), h.2.2⟩

end Go.Proofs.YtppgklmliklkkaaGreatDoor
