/-
  The walk of the statement FixedSums.
-/
import Derived.Test.YtahdecppngemeaaDoorFxY
namespace Go.Proofs.YtahdecppngemeaaDoor
open Go.RowKit

theorem add_small (x y : Int) (w : World) (h1 : -100000000000 ≤ x) (h2 : x ≤ 100000000000) (h3 : -100000000000 ≤ y) (h4 : y ≤ 100000000000) :
    Calls Tryd.prog 12 #[.int .i64 x, .int .i64 y] w fun e w' => e = .returned (.int .i64 (x + y)) ∧ w = w' := by
  have := add_any x y w
  rw [Fx.stop_id (n := x) (by omega) (by omega), Fx.stop_id (n := y) (by omega) (by omega), Fx.stop_id (n := x + y) (by omega) (by omega)] at this
  exact this
namespace Fx
theorem mul_whole (a k : Int) (h1 : -1073741824 ≤ a) (h2 : a ≤ 1073741824) (k0 : 0 ≤ k) (k1 : k ≤ 50) : mul a (1000 * k) = k * a := by
  obtain ⟨n, rfl⟩ := Int.eq_ofNat_of_zero_le k0
  unfold mul
  rw [stop_id (n := a) (by omega) (by omega), stop_id (n := 1000 * (n : Int)) (by omega) (by omega)]
  have e2 : (absZ (1000 * (n : Int))).toNat = 1000 * n := by rw [absZ_pos (by omega)]; omega
  rw [e2]
  by_cases h : a < 0
  · rw [if_neg (by rw [decide_eq_true h, decide_eq_false (by omega)]; decide), absZ_neg h]
    obtain ⟨m, hm⟩ : ∃ m : Nat, a = -(m : Int) := ⟨(-a).toNat, by omega⟩
    subst hm
    rw [show (- -(m : Int)).toNat = m by omega]
    have hb : n * m ≤ 50 * 1073741824 := Nat.mul_le_mul (by omega) (by omega)
    have e3 : ((m * (1000 * n) : Nat) : Int) = ((n * m : Nat) : Int) * 1000 := by rw [Nat.mul_left_comm, Nat.mul_comm m n, Nat.mul_comm 1000, Int.natCast_mul]; rfl
    unfold prodN
    rw [e3, Int.mul_neg, ← Int.natCast_mul]
    omega
  · rw [if_pos (by rw [decide_eq_false h, decide_eq_false (by omega)]), absZ_pos h]
    obtain ⟨m, rfl⟩ := Int.eq_ofNat_of_zero_le (show 0 ≤ a by omega)
    rw [Int.toNat_natCast]
    have hb : n * m ≤ 50 * 1073741824 := Nat.mul_le_mul (by omega) (by omega)
    have e3 : ((m * (1000 * n) : Nat) : Int) = ((n * m : Nat) : Int) * 1000 := by rw [Nat.mul_left_comm, Nat.mul_comm m n, Nat.mul_comm 1000, Int.natCast_mul]; rfl
    unfold prodN
    rw [e3, ← Int.natCast_mul]
    omega
end Fx

set_option maxRecDepth 100000 in
set_option maxHeartbeats 2000000 in
theorem sums_any (a b c t : Int) (t0 : 0 ≤ t) (t1 : t ≤ 255) (B : Nat) (w : World) (hB : B ≤ w.heap.size) (hT : Tab B w) :
    Calls Tryd.prog 9 #[.int .i64 a, .int .i64 b, .int .i64 c, .int .u8 t] w (Yes w) := by
  have CA := Lib.hid (awake_any B w hB hT)
  clear hT hB
  have i0 : ∀ (x0 x1 x2 : Value) w, (Instr.index 33 (.agg #[x0, x1, x2]) (.int .i64 0)).run Tryd.prog w = .ok x0 w := fun _ _ _ _ => by kernel_rfl
  have i1 : ∀ (x0 x1 x2 : Value) w, (Instr.index 33 (.agg #[x0, x1, x2]) (.int .i64 1)).run Tryd.prog w = .ok x1 w := fun _ _ _ _ => by kernel_rfl
  have i2 : ∀ (x0 x1 x2 : Value) w, (Instr.index 33 (.agg #[x0, x1, x2]) (.int .i64 2)).run Tryd.prog w = .ok x2 w := fun _ _ _ _ => by kernel_rfl
  go_enter Tryd.func9, Tryd.ntmps9
  go_wp2_with fail
  go_loop [17] (fun s17 => ∃ k : Nat, k ≤ 3 ∧ s17 = .int .i64 k ∧ Hid (1 ≤ k → -1073741824 ≤ a ∧ a ≤ 1073741824) ∧ Hid (2 ≤ k → -1073741824 ≤ b ∧ b ≤ 1073741824) ∧ Hid (3 ≤ k → -1073741824 ≤ c ∧ c ≤ 1073741824)) (fun s17 => 3 - (intOf s17).toNat)
  case atStart => exact ⟨0, by omega, rfl, Lib.hid (fun h => by omega), Lib.hid (fun h => by omega), Lib.hid (fun h => by omega)⟩
  case round =>
    obtain ⟨k, hk, rfl, ra, rb, rc⟩ := hrel
    obtain rfl | rfl | rfl | rfl : k = 0 ∨ k = 1 ∨ k = 2 ∨ k = 3 := by omega
    · by_cases l1 : a < -1073741824
      · go_wp2_with (go_at_call 16; ((with_reducible refine (CA.out).mono ?_); rintro e w' ⟨rfl, hb⟩))
        go_ret
        exact ⟨rfl, hb⟩
      · by_cases l2 : 1073741824 < a
        · go_wp2_with (go_at_call 16; ((with_reducible refine (CA.out).mono ?_); rintro e w' ⟨rfl, hb⟩))
          go_ret
          exact ⟨rfl, hb⟩
        · go_wp2_with fail
          go_round
          case rel => exact ⟨1, by omega, rfl, Lib.hid (fun _ => ⟨by omega, by omega⟩), Lib.hid (fun h => by omega), Lib.hid (fun h => by omega)⟩
          case measure => simp [intOf]
    · by_cases l1 : b < -1073741824
      · go_wp2_with (go_at_call 16; ((with_reducible refine (CA.out).mono ?_); rintro e w' ⟨rfl, hb⟩))
        go_ret
        exact ⟨rfl, hb⟩
      · by_cases l2 : 1073741824 < b
        · go_wp2_with (go_at_call 16; ((with_reducible refine (CA.out).mono ?_); rintro e w' ⟨rfl, hb⟩))
          go_ret
          exact ⟨rfl, hb⟩
        · go_wp2_with fail
          go_round
          case rel => exact ⟨2, by omega, rfl, Lib.hid (fun _ => ra.out (by omega)), Lib.hid (fun _ => ⟨by omega, by omega⟩), Lib.hid (fun h => by omega)⟩
          case measure => simp [intOf]
    · by_cases l1 : c < -1073741824
      · go_wp2_with (go_at_call 16; ((with_reducible refine (CA.out).mono ?_); rintro e w' ⟨rfl, hb⟩))
        go_ret
        exact ⟨rfl, hb⟩
      · by_cases l2 : 1073741824 < c
        · go_wp2_with (go_at_call 16; ((with_reducible refine (CA.out).mono ?_); rintro e w' ⟨rfl, hb⟩))
          go_ret
          exact ⟨rfl, hb⟩
        · go_wp2_with fail
          go_round
          case rel => exact ⟨3, by omega, rfl, Lib.hid (fun _ => ra.out (by omega)), Lib.hid (fun _ => rb.out (by omega)), Lib.hid (fun _ => ⟨by omega, by omega⟩)⟩
          case measure => simp [intOf]
    · obtain ⟨a1, a2⟩ := ra.out (by omega)
      obtain ⟨b1, b2⟩ := rb.out (by omega)
      obtain ⟨c1, c2⟩ := rc.out (by omega)
      clear ra rb rc i0 i1 i2 hk
      go_wp2_with fail
      go_loop [12, 32] (fun s12 s32 => ∃ (i : Nat) (S : Int), (i : Int) ≤ t % 50 ∧ s32 = .int .i64 i ∧ s12 = .int .i64 S ∧ -((i : Int) * 1073741824) ≤ S ∧ S ≤ (i : Int) * 1073741824 ∧ Hid (S = (i : Int) * a)) (fun _ s32 => 50 - (intOf s32).toNat)
      case atStart => exact ⟨0, 0, by omega, rfl, rfl, by omega, by omega, Lib.hid (by simp)⟩
      case round =>
        obtain ⟨i, S, hi, rfl, rfl, s1, s2, hS⟩ := hrel
        by_cases hlt : (i : Int) < t % 50
        · go_wp2_with (go_at_call 12; refine (add_small _ _ _ (by omega) (by omega) (by omega) (by omega)).mono ?_; rintro e w' ⟨rfl, rfl⟩)
          go_round
          case rel => exact ⟨i + 1, S + a, by omega, by go_num, rfl, by omega, by omega, Lib.hid (by rw [hS.out]; push_cast; rw [Int.add_mul]; omega)⟩
          case measure => simp [intOf]; omega
        · have hm : (i : Int) = t % 50 := by omega
          have CM : Hid (∀ w : World, Calls Tryd.prog 14 #[.int .i64 a, .int .i64 (1000 * (t % 50))] w fun e w' => e = .returned (.int .i64 S) ∧ w = w') := Lib.hid fun w => by
            have := mul_any a (1000 * (t % 50)) w
            rw [Fx.mul_whole a (t % 50) a1 a2 (by omega) (by omega), ← hm, ← hS.out] at this
            exact hm ▸ this
          have he : ((a + b + c) == (a + (b + c))) = true := by rw [beq_iff_eq]; omega
          clear hS hm
          go_wp2_with (first | (go_at_call 12; refine (add_small _ _ _ (by omega) (by omega) (by omega) (by omega)).mono ?_; rintro e w' ⟨rfl, rfl⟩) | (go_at_call 14; ((with_reducible refine (CM.out _).mono ?_); rintro e w' ⟨rfl, rfl⟩)) | (go_at_call 16; ((with_reducible refine (CA.out).mono ?_); rintro e w' ⟨rfl, hb⟩)))
          go_ret
          exact ⟨rfl, hb⟩

end Go.Proofs.YtahdecppngemeaaDoor
