/-
  The walk of the reference's span.
-/
import Derived.Test.YtakafhjnkcilkaaDoorRuB
import Derived.Test.YtakafhjnkcilkaaDoorRuS
import Derived.LoopTactic
namespace Go.Proofs.YtakafhjnkcilkaaDoor
open Go.RowKit

/-- what span tells -/
def Spanned (k L : Nat) (l : List Int) (w : World) (e : Ending) (w' : World) : Prop :=
  (Ru.cls L (Ru.g l 0) ∧ Ru.okC k l (L - 1) → e = .returned (.tuple #[.int .i64 (Ru.spLo k l (Ru.base (Ru.g l 0)) (L - 1)), .int .i64 (Ru.spHi k l (Ru.base (Ru.g l 0)) (L - 1))])) ∧
  (¬ (Ru.cls L (Ru.g l 0) ∧ Ru.okC k l (L - 1)) → e = .returned (.tuple #[.int .i64 (-1), .int .i64 (-1)])) ∧ w = w'
def SpanAt (k L : Nat) (l : List Int) (v7 v8 v9 : Value) : Prop :=
  ∃ j : Nat, j + 1 ≤ L ∧ v9 = .int .i64 ((j + 1 : Nat) : Int) ∧ v7 = .int .i64 (Ru.spLo k l (Ru.base (Ru.g l 0)) j) ∧ v8 = .int .i64 (Ru.spHi k l (Ru.base (Ru.g l 0)) j) ∧ Hid (Ru.okC k l j)
theorem ret_two {k1 k2 : IntKind} {a b c d : Int} (h1 : a = c) (h2 : b = d) : Ending.returned (.tuple #[.int k1 a, .int k2 b]) = .returned (.tuple #[.int k1 c, .int k2 d]) := by rw [h1, h2]

theorem span_loop (k L : Nat) (l : List Int) (hL : 2 ≤ L ∧ L ≤ 4) (hc : Ru.cls L (Ru.g l 0)) (j : Nat) (hj : j + 1 ≤ L) (ho : Ru.okC k l j) :
    0 ≤ Ru.spLo k l (Ru.base (Ru.g l 0)) j ∧ Ru.spLo k l (Ru.base (Ru.g l 0)) j ≤ Ru.spHi k l (Ru.base (Ru.g l 0)) j ∧ Ru.spHi k l (Ru.base (Ru.g l 0)) j ≤ 8388607 := by
  have hb : 0 ≤ Ru.base (Ru.g l 0) ∧ Ru.base (Ru.g l 0) ≤ 31 := by unfold Ru.cls at hc; unfold Ru.base; omega
  have h1 := Ru.sp_bounds (k := k) (l := l) hb.1 hb.2 j (by omega) ho
  have h2 := Ru.pow_three (i := j) (by omega)
  omega
theorem span_yes {k : Nat} {l : List Int} {x : Int} {j : Nat} (h : j + 1 < k) : Ru.spLo k l x (j + 1) = Ru.spLo k l x j * 64 + Ru.g l (j + 1) - 128 ∧ Ru.spHi k l x (j + 1) = Ru.spHi k l x j * 64 + Ru.g l (j + 1) - 128 := by
  rw [Ru.spLo, Ru.spHi, if_pos h, if_pos h]; exact ⟨rfl, rfl⟩
theorem span_not {k : Nat} {l : List Int} {x : Int} {j : Nat} (h : ¬ j + 1 < k) : Ru.spLo k l x (j + 1) = Ru.spLo k l x j * 64 ∧ Ru.spHi k l x (j + 1) = Ru.spHi k l x j * 64 + 63 := by
  rw [Ru.spLo, Ru.spHi, if_neg h, if_neg h]; exact ⟨rfl, rfl⟩

set_option maxHeartbeats 2000000 in
set_option maxRecDepth 100000 in
theorem span_two (k : Nat) (l : List Int) (b off cap : Nat) (w : World) (h1 : 1 ≤ k) (hl : Ru.By l) (hm : k ≤ 9223372036854775807) (hp : ∀ j, j < k → w.cell? ⟨b, off + j, none⟩ = some (.int .u8 (Ru.g l j))) :
    Calls Tryd.prog 40 #[.slice (some ⟨b, off, none⟩) k cap, .int .i64 2] w (Spanned k 2 l w) := by
  have h0 := hp 0 (by omega)
  rw [Nat.add_zero] at h0
  have y0 := hl.at_ 0
  by_cases c1 : 192 ≤ Ru.g l 0
  · by_cases c2 : Ru.g l 0 < 224
    · have hc : Ru.cls 2 (Ru.g l 0) := by unfold Ru.cls; omega
      have hx : Ru.base (Ru.g l 0) = Ru.g l 0 - 192 := by unfold Ru.base; omega
      have HX := Lib.hid hx
      have HC := Lib.hid hc
      have HP := Lib.hid hp
      have HL := Lib.hid hl
      clear hx hc hp hl
      go_enter Tryd.func40, Tryd.ntmps40
      go_wp2_with fail
      go_loop [7, 8, 9] (fun v7 v8 v9 => SpanAt k 2 l v7 v8 v9) (fun _ _ v9 => 2 - (RowKit.intOf v9).toNat)
      case atStart => exact ⟨0, by omega, rfl, by rw [Ru.spLo, HX.out], by rw [Ru.spHi, HX.out], Lib.hid (Ru.okC_zero _ _)⟩
      case round =>
        obtain ⟨j, hj, rfl, rfl, rfl, ho⟩ := hrel
        have hbd := span_loop k 2 l (by omega) HC.out j (by omega) ho.out
        obtain ⟨q1, q2, q3⟩ := hbd
        by_cases hlt : j + 1 < 2
        · by_cases hk : j + 1 < k
          · have hcell := HP.out (j + 1) hk
            have hy := HL.out.at_ (j + 1)
            obtain ⟨p1, p2⟩ := hy
            have HN := Lib.hid (span_yes (l := l) (x := Ru.base (Ru.g l 0)) hk)
            generalize Ru.spLo k l (Ru.base (Ru.g l 0)) j = lo at *
            generalize Ru.spHi k l (Ru.base (Ru.g l 0)) j = hi at *
            clear HP HL HC HX
            by_cases d1 : Ru.g l (j + 1) < 128
            · go_wp2_with fail
              go_ret2
              exact ⟨fun h => absurd (h.2 (j + 1) (by omega) (by omega) hk) (by omega), fun _ => rfl, rfl⟩
            · by_cases d2 : 191 < Ru.g l (j + 1)
              · go_wp2_with fail
                go_ret2
                exact ⟨fun h => absurd (h.2 (j + 1) (by omega) (by omega) hk) (by omega), fun _ => rfl, rfl⟩
              · go_wp2_with fail
                go_round
                case rel => exact ⟨j + 1, by omega, by go_num, congrArg (Value.int .i64) (by rw [HN.out.1]), congrArg (Value.int .i64) (by rw [HN.out.2]), Lib.hid (Ru.okC_next ho.out fun _ => by omega)⟩
                case measure => simp [RowKit.intOf]; omega
          · have HN := Lib.hid (span_not (l := l) (x := Ru.base (Ru.g l 0)) hk)
            generalize Ru.spLo k l (Ru.base (Ru.g l 0)) j = lo at *
            generalize Ru.spHi k l (Ru.base (Ru.g l 0)) j = hi at *
            clear HP HL HC HX
            go_wp2_with fail
            go_round
            case rel => exact ⟨j + 1, by omega, by go_num, congrArg (Value.int .i64) (by rw [HN.out.1]), congrArg (Value.int .i64) (by rw [HN.out.2]), Lib.hid (Ru.okC_next ho.out fun h => absurd h hk)⟩
            case measure => simp [RowKit.intOf]; omega
        · obtain rfl : j = 2 - 1 := by omega
          clear HP HL HX
          go_wp2_with fail
          go_ret2
          exact ⟨fun _ => rfl, fun h => absurd ⟨HC.out, ho.out⟩ h, rfl⟩
    · go_enter Tryd.func40, Tryd.ntmps40
      go_wp2_with fail
      go_ret2
      exact ⟨fun h => absurd h.1 (by unfold Ru.cls; omega), fun _ => rfl, rfl⟩
  · go_enter Tryd.func40, Tryd.ntmps40
    go_wp2_with fail
    go_ret2
    exact ⟨fun h => absurd h.1 (by unfold Ru.cls; omega), fun _ => rfl, rfl⟩

set_option maxHeartbeats 2000000 in
set_option maxRecDepth 100000 in
theorem span_three (k : Nat) (l : List Int) (b off cap : Nat) (w : World) (h1 : 1 ≤ k) (hl : Ru.By l) (hm : k ≤ 9223372036854775807) (hp : ∀ j, j < k → w.cell? ⟨b, off + j, none⟩ = some (.int .u8 (Ru.g l j))) :
    Calls Tryd.prog 40 #[.slice (some ⟨b, off, none⟩) k cap, .int .i64 3] w (Spanned k 3 l w) := by
  have h0 := hp 0 (by omega)
  rw [Nat.add_zero] at h0
  have y0 := hl.at_ 0
  by_cases c1 : 224 ≤ Ru.g l 0
  · by_cases c2 : Ru.g l 0 < 240
    · have hc : Ru.cls 3 (Ru.g l 0) := by unfold Ru.cls; omega
      have hx : Ru.base (Ru.g l 0) = Ru.g l 0 - 224 := by unfold Ru.base; omega
      have HX := Lib.hid hx
      have HC := Lib.hid hc
      have HP := Lib.hid hp
      have HL := Lib.hid hl
      clear hx hc hp hl
      go_enter Tryd.func40, Tryd.ntmps40
      go_wp2_with fail
      go_loop [7, 8, 9] (fun v7 v8 v9 => SpanAt k 3 l v7 v8 v9) (fun _ _ v9 => 3 - (RowKit.intOf v9).toNat)
      case atStart => exact ⟨0, by omega, rfl, by rw [Ru.spLo, HX.out], by rw [Ru.spHi, HX.out], Lib.hid (Ru.okC_zero _ _)⟩
      case round =>
        obtain ⟨j, hj, rfl, rfl, rfl, ho⟩ := hrel
        have hbd := span_loop k 3 l (by omega) HC.out j (by omega) ho.out
        obtain ⟨q1, q2, q3⟩ := hbd
        by_cases hlt : j + 1 < 3
        · by_cases hk : j + 1 < k
          · have hcell := HP.out (j + 1) hk
            have hy := HL.out.at_ (j + 1)
            obtain ⟨p1, p2⟩ := hy
            have HN := Lib.hid (span_yes (l := l) (x := Ru.base (Ru.g l 0)) hk)
            generalize Ru.spLo k l (Ru.base (Ru.g l 0)) j = lo at *
            generalize Ru.spHi k l (Ru.base (Ru.g l 0)) j = hi at *
            clear HP HL HC HX
            by_cases d1 : Ru.g l (j + 1) < 128
            · go_wp2_with fail
              go_ret2
              exact ⟨fun h => absurd (h.2 (j + 1) (by omega) (by omega) hk) (by omega), fun _ => rfl, rfl⟩
            · by_cases d2 : 191 < Ru.g l (j + 1)
              · go_wp2_with fail
                go_ret2
                exact ⟨fun h => absurd (h.2 (j + 1) (by omega) (by omega) hk) (by omega), fun _ => rfl, rfl⟩
              · go_wp2_with fail
                go_round
                case rel => exact ⟨j + 1, by omega, by go_num, congrArg (Value.int .i64) (by rw [HN.out.1]), congrArg (Value.int .i64) (by rw [HN.out.2]), Lib.hid (Ru.okC_next ho.out fun _ => by omega)⟩
                case measure => simp [RowKit.intOf]; omega
          · have HN := Lib.hid (span_not (l := l) (x := Ru.base (Ru.g l 0)) hk)
            generalize Ru.spLo k l (Ru.base (Ru.g l 0)) j = lo at *
            generalize Ru.spHi k l (Ru.base (Ru.g l 0)) j = hi at *
            clear HP HL HC HX
            go_wp2_with fail
            go_round
            case rel => exact ⟨j + 1, by omega, by go_num, congrArg (Value.int .i64) (by rw [HN.out.1]), congrArg (Value.int .i64) (by rw [HN.out.2]), Lib.hid (Ru.okC_next ho.out fun h => absurd h hk)⟩
            case measure => simp [RowKit.intOf]; omega
        · obtain rfl : j = 3 - 1 := by omega
          clear HP HL HX
          go_wp2_with fail
          go_ret2
          exact ⟨fun _ => rfl, fun h => absurd ⟨HC.out, ho.out⟩ h, rfl⟩
    · go_enter Tryd.func40, Tryd.ntmps40
      go_wp2_with fail
      go_ret2
      exact ⟨fun h => absurd h.1 (by unfold Ru.cls; omega), fun _ => rfl, rfl⟩
  · go_enter Tryd.func40, Tryd.ntmps40
    go_wp2_with fail
    go_ret2
    exact ⟨fun h => absurd h.1 (by unfold Ru.cls; omega), fun _ => rfl, rfl⟩

set_option maxHeartbeats 2000000 in
set_option maxRecDepth 100000 in
theorem span_four (k : Nat) (l : List Int) (b off cap : Nat) (w : World) (h1 : 1 ≤ k) (hl : Ru.By l) (hm : k ≤ 9223372036854775807) (hp : ∀ j, j < k → w.cell? ⟨b, off + j, none⟩ = some (.int .u8 (Ru.g l j))) :
    Calls Tryd.prog 40 #[.slice (some ⟨b, off, none⟩) k cap, .int .i64 4] w (Spanned k 4 l w) := by
  have h0 := hp 0 (by omega)
  rw [Nat.add_zero] at h0
  have y0 := hl.at_ 0
  by_cases c1 : 240 ≤ Ru.g l 0
  · by_cases c2 : Ru.g l 0 < 248
    · have hc : Ru.cls 4 (Ru.g l 0) := by unfold Ru.cls; omega
      have hx : Ru.base (Ru.g l 0) = Ru.g l 0 - 240 := by unfold Ru.base; omega
      have HX := Lib.hid hx
      have HC := Lib.hid hc
      have HP := Lib.hid hp
      have HL := Lib.hid hl
      clear hx hc hp hl
      go_enter Tryd.func40, Tryd.ntmps40
      go_wp2_with fail
      go_loop [7, 8, 9] (fun v7 v8 v9 => SpanAt k 4 l v7 v8 v9) (fun _ _ v9 => 4 - (RowKit.intOf v9).toNat)
      case atStart => exact ⟨0, by omega, rfl, by rw [Ru.spLo, HX.out], by rw [Ru.spHi, HX.out], Lib.hid (Ru.okC_zero _ _)⟩
      case round =>
        obtain ⟨j, hj, rfl, rfl, rfl, ho⟩ := hrel
        have hbd := span_loop k 4 l (by omega) HC.out j (by omega) ho.out
        obtain ⟨q1, q2, q3⟩ := hbd
        by_cases hlt : j + 1 < 4
        · by_cases hk : j + 1 < k
          · have hcell := HP.out (j + 1) hk
            have hy := HL.out.at_ (j + 1)
            obtain ⟨p1, p2⟩ := hy
            have HN := Lib.hid (span_yes (l := l) (x := Ru.base (Ru.g l 0)) hk)
            generalize Ru.spLo k l (Ru.base (Ru.g l 0)) j = lo at *
            generalize Ru.spHi k l (Ru.base (Ru.g l 0)) j = hi at *
            clear HP HL HC HX
            by_cases d1 : Ru.g l (j + 1) < 128
            · go_wp2_with fail
              go_ret2
              exact ⟨fun h => absurd (h.2 (j + 1) (by omega) (by omega) hk) (by omega), fun _ => rfl, rfl⟩
            · by_cases d2 : 191 < Ru.g l (j + 1)
              · go_wp2_with fail
                go_ret2
                exact ⟨fun h => absurd (h.2 (j + 1) (by omega) (by omega) hk) (by omega), fun _ => rfl, rfl⟩
              · go_wp2_with fail
                go_round
                case rel => exact ⟨j + 1, by omega, by go_num, congrArg (Value.int .i64) (by rw [HN.out.1]), congrArg (Value.int .i64) (by rw [HN.out.2]), Lib.hid (Ru.okC_next ho.out fun _ => by omega)⟩
                case measure => simp [RowKit.intOf]; omega
          · have HN := Lib.hid (span_not (l := l) (x := Ru.base (Ru.g l 0)) hk)
            generalize Ru.spLo k l (Ru.base (Ru.g l 0)) j = lo at *
            generalize Ru.spHi k l (Ru.base (Ru.g l 0)) j = hi at *
            clear HP HL HC HX
            go_wp2_with fail
            go_round
            case rel => exact ⟨j + 1, by omega, by go_num, congrArg (Value.int .i64) (by rw [HN.out.1]), congrArg (Value.int .i64) (by rw [HN.out.2]), Lib.hid (Ru.okC_next ho.out fun h => absurd h hk)⟩
            case measure => simp [RowKit.intOf]; omega
        · obtain rfl : j = 4 - 1 := by omega
          clear HP HL HX
          go_wp2_with fail
          go_ret2
          exact ⟨fun _ => rfl, fun h => absurd ⟨HC.out, ho.out⟩ h, rfl⟩
    · go_enter Tryd.func40, Tryd.ntmps40
      go_wp2_with fail
      go_ret2
      exact ⟨fun h => absurd h.1 (by unfold Ru.cls; omega), fun _ => rfl, rfl⟩
  · go_enter Tryd.func40, Tryd.ntmps40
    go_wp2_with fail
    go_ret2
    exact ⟨fun h => absurd h.1 (by unfold Ru.cls; omega), fun _ => rfl, rfl⟩
end Go.Proofs.YtakafhjnkcilkaaDoor
