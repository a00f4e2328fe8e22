/-
  The walks of the statements FixedReckons, FixedParses, FixedOrder.
-/
import Derived.Test.YtahdecppngemeaaDoorFxW
import Derived.Test.YtahdecppngemeaaDoorFxJ
namespace Go.Proofs.YtahdecppngemeaaDoor
open Go.RowKit

namespace Fx
theorem mul_comm' (a b : Int) : mul a b = mul b a := by
  unfold mul
  rw [Nat.mul_comm]
  by_cases h : decide (stop a < 0) = decide (stop b < 0)
  · rw [if_pos h, if_pos h.symm]
  · rw [if_neg h, if_neg (fun e => h e.symm)]
theorem mul_one' (a : Int) : mul a 1000 = stop a := by
  have h1 := stop_lo a
  have h2 := stop_hi a
  have e1 : stop 1000 = 1000 := by decide
  unfold mul
  rw [e1, show (absZ 1000).toNat = 1000 from rfl]
  unfold prodN
  by_cases h : stop a < 0
  · rw [if_neg (by rw [decide_eq_true h]; decide), absZ_neg h]; omega
  · rw [if_pos (by rw [decide_eq_false h]; decide), absZ_pos h]; omega
theorem mul_nought (a : Int) : mul a 0 = 0 := by
  have e1 : stop 0 = 0 := by decide
  unfold mul
  rw [e1, show (absZ 0).toNat = 0 from rfl, Nat.mul_zero]
  split <;> rfl
theorem mul_less (a : Int) : mul (stop a) (-1000) = - stop a := by
  have h1 := stop_lo a
  have h2 := stop_hi a
  have e1 : stop (-1000) = -1000 := by decide
  unfold mul
  rw [e1, stop_stop, show (absZ (-1000)).toNat = 1000 from rfl]
  unfold prodN
  by_cases h : stop a < 0
  · rw [if_pos (by rw [decide_eq_true h]; decide), absZ_neg h]; omega
  · rw [if_neg (by rw [decide_eq_false h]; decide), absZ_pos h]; omega
end Fx

set_option maxRecDepth 100000 in
set_option maxHeartbeats 1000000 in
theorem reckons_any (a b : Int) (B : Nat) (w : World) (hB : B ≤ w.heap.size) (hT : Tab B w) :
    Calls Tryd.prog 3 #[.int .i64 a, .int .i64 b] w (Yes w) := by
  have CA := Lib.hid (awake_any B w hB hT)
  clear hT
  go_enter Tryd.func3, Tryd.ntmps3
  go_wp2_with (first | (go_at_call 10; refine (stop_any _ _).mono ?_; rintro e w' ⟨rfl, rfl⟩) | (go_at_call 11; refine (rstop_any _ _).mono ?_; rintro e w' ⟨rfl, rfl⟩) | (go_at_call 12; refine (add_any _ _ _).mono ?_; rintro e w' ⟨rfl, rfl⟩) | (go_at_call 13; refine (radd_any _ _ _).mono ?_; rintro e w' ⟨rfl, rfl⟩) | (go_at_call 14; refine (mul_any _ _ _).mono ?_; rintro e w' ⟨rfl, rfl⟩) | (go_at_call 15; refine (rmul_any _ _ _).mono ?_; rintro e w' ⟨rfl, rfl⟩) | (go_at_call 16; ((with_reducible refine (CA.out).mono ?_); rintro e w' ⟨rfl, hb⟩)))
  go_ret
  exact ⟨rfl, hb⟩

set_option maxRecDepth 100000 in
set_option maxHeartbeats 1000000 in
theorem order_any (a b : Int) (B : Nat) (w : World) (hB : B ≤ w.heap.size) (hT : Tab B w) :
    Calls Tryd.prog 6 #[.int .i64 a, .int .i64 b] w (Yes w) := by
  have CA := Lib.hid (awake_any B w hB hT)
  clear hT
  have x1 := Fx.stop_lo a
  have x2 := Fx.stop_hi a
  have y1 := Fx.stop_lo b
  have y2 := Fx.stop_hi b
  have S1 := Lib.hid fun w => rstop_any a w
  have A1 : Hid (∀ w : World, Calls Tryd.prog 12 #[.int .i64 a, .int .i64 b] w fun e w' => e = .returned (.int .i64 (Fx.stop (Fx.stop a + Fx.stop b))) ∧ w = w') := Lib.hid fun w => add_any a b w
  have A2 : Hid (∀ w : World, Calls Tryd.prog 12 #[.int .i64 b, .int .i64 a] w fun e w' => e = .returned (.int .i64 (Fx.stop (Fx.stop a + Fx.stop b))) ∧ w = w') := Lib.hid fun w => by rw [Int.add_comm]; exact add_any b a w
  have A3 : Hid (∀ w : World, Calls Tryd.prog 12 #[.int .i64 a, .int .i64 0] w fun e w' => e = .returned (.int .i64 (Fx.stop a)) ∧ w = w') := Lib.hid fun w => by
    have := add_any a 0 w
    rw [show Fx.stop 0 = 0 from rfl, Int.add_zero, Fx.stop_stop] at this
    exact this
  have A4 : Hid (∀ w : World, Calls Tryd.prog 12 #[.int .i64 (Fx.stop a), .int .i64 (-Fx.stop a)] w fun e w' => e = .returned (.int .i64 0) ∧ w = w') := Lib.hid fun w => by
    have := add_any (Fx.stop a) (-Fx.stop a) w
    rw [Fx.stop_stop, Fx.stop_id (n := -Fx.stop a) (by omega) (by omega), show Fx.stop a + -Fx.stop a = 0 by omega, show Fx.stop 0 = 0 from rfl] at this
    exact this
  have M1 : Hid (∀ w : World, Calls Tryd.prog 14 #[.int .i64 a, .int .i64 b] w fun e w' => e = .returned (.int .i64 (Fx.mul a b)) ∧ w = w') := Lib.hid fun w => mul_any a b w
  have M2 : Hid (∀ w : World, Calls Tryd.prog 14 #[.int .i64 b, .int .i64 a] w fun e w' => e = .returned (.int .i64 (Fx.mul a b)) ∧ w = w') := Lib.hid fun w => by rw [Fx.mul_comm']; exact mul_any b a w
  have M3 : Hid (∀ w : World, Calls Tryd.prog 14 #[.int .i64 a, .int .i64 1000] w fun e w' => e = .returned (.int .i64 (Fx.stop a)) ∧ w = w') := Lib.hid fun w => by rw [← Fx.mul_one']; exact mul_any a 1000 w
  have M4 : Hid (∀ w : World, Calls Tryd.prog 14 #[.int .i64 a, .int .i64 0] w fun e w' => e = .returned (.int .i64 0) ∧ w = w') := Lib.hid fun w => by
    have := mul_any a 0 w
    rw [Fx.mul_nought] at this
    exact this
  have M5 : Hid (∀ w : World, Calls Tryd.prog 14 #[.int .i64 (Fx.stop a), .int .i64 (-1000)] w fun e w' => e = .returned (.int .i64 (-Fx.stop a)) ∧ w = w') := Lib.hid fun w => by rw [← Fx.mul_less]; exact mul_any (Fx.stop a) (-1000) w
  go_enter Tryd.func6, Tryd.ntmps6
  go_wp2_with (first | (go_at_call 11; ((with_reducible refine (S1.out _).mono ?_); rintro e w' ⟨rfl, rfl⟩)) | (go_at_call 12; first | ((with_reducible refine (A1.out _).mono ?_); rintro e w' ⟨rfl, rfl⟩) | ((with_reducible refine (A2.out _).mono ?_); rintro e w' ⟨rfl, rfl⟩) | ((with_reducible refine (A3.out _).mono ?_); rintro e w' ⟨rfl, rfl⟩) | ((with_reducible refine (A4.out _).mono ?_); rintro e w' ⟨rfl, rfl⟩)) | (go_at_call 14; first | ((with_reducible refine (M1.out _).mono ?_); rintro e w' ⟨rfl, rfl⟩) | ((with_reducible refine (M2.out _).mono ?_); rintro e w' ⟨rfl, rfl⟩) | ((with_reducible refine (M3.out _).mono ?_); rintro e w' ⟨rfl, rfl⟩) | ((with_reducible refine (M4.out _).mono ?_); rintro e w' ⟨rfl, rfl⟩) | ((with_reducible refine (M5.out _).mono ?_); rintro e w' ⟨rfl, rfl⟩)) | (go_at_call 16; ((with_reducible refine (CA.out).mono ?_); rintro e w' ⟨rfl, hb⟩)))

  go_ret
  exact ⟨rfl, hb⟩

theorem len_of_size (s : ByteArray) : s.data.toList.length = s.size := by simp

set_option maxRecDepth 100000 in
set_option maxHeartbeats 1000000 in
theorem parses_any (s : ByteArray) (B : Nat) (w : World) (hB : B ≤ w.heap.size) (hT : Tab B w) (hs : s.size ≤ 140737488351232) :
    Calls Tryd.prog 4 #[.string s] w (Yes w) := by
  have CA : Hid (∀ w' : World, Below w.heap.size w w' → Calls Tryd.prog 16 #[] w' (Yes w')) := Lib.hid fun w' hb => awake_any B w' (Nat.le_trans hB hb.size) (Lib.TabBelow.on hT (hb.mono hB))
  clear hT
  by_cases h300 : 300 < s.size
  · go_enter Tryd.func4, Tryd.ntmps4
    go_wp2_with (go_at_call 16; ((with_reducible refine (CA.out _ (Below.refl _ _)).mono ?_); rintro e w' ⟨rfl, hb⟩))
    go_ret
    exact ⟨rfl, hb⟩
  · have hs' : s.size ≤ 1000 := by omega
    have L1 := Lib.hid fun w => length_any s w (by unfold maxLen; omega)
    have L2 := rlength_is s hs'
    cases hd : Fx.isDec s.data.toList
    · have P1 := Lib.hid fun w => parse_no s w hs' hd
      have P2 := Lib.hid fun w => rparse_no s w hs' hd
      clear hd
      generalize Fx.len s.data.toList = m at *
      go_enter Tryd.func4, Tryd.ntmps4
      go_wp2_with (first | (go_at_call 17; ((with_reducible refine (P1.out _).mono ?_); rintro e w1 ⟨rfl, hb1⟩)) | (go_at_call 18; ((with_reducible refine (P2.out _).mono ?_); rintro e w2 ⟨rfl, hb2⟩)) | (go_at_call 19; ((with_reducible refine (L1.out _).mono ?_); rintro e w3 ⟨rfl, hb3⟩; have hc := (hb1.trans (hb2.mono hb1.size)).trans (hb3.mono (Nat.le_trans hb1.size hb2.size)))) | (go_at_call 20; ((with_reducible refine (L2.out _).mono ?_); rintro e w' ⟨rfl, rfl⟩)) | (go_at_call 16; ((with_reducible refine (CA.out _ hc).mono ?_); rintro e w' ⟨rfl, hb⟩)))
      go_ret
      exact ⟨rfl, hc.trans (hb.mono hc.size)⟩
    · have P1 := Lib.hid fun w => parse_yes s w hs' hd
      have P2 := Lib.hid fun w => rparse_yes s w hs' hd
      clear hd
      generalize Fx.num s.data.toList = r at *
      generalize Fx.len s.data.toList = m at *
      go_enter Tryd.func4, Tryd.ntmps4
      go_wp2_with (first | (go_at_call 17; ((with_reducible refine (P1.out _).mono ?_); rintro e w1 ⟨rfl, hb1⟩)) | (go_at_call 18; ((with_reducible refine (P2.out _).mono ?_); rintro e w2 ⟨rfl, hb2⟩)) | (go_at_call 19; ((with_reducible refine (L1.out _).mono ?_); rintro e w3 ⟨rfl, hb3⟩; have hc := (hb1.trans (hb2.mono hb1.size)).trans (hb3.mono (Nat.le_trans hb1.size hb2.size)))) | (go_at_call 20; ((with_reducible refine (L2.out _).mono ?_); rintro e w' ⟨rfl, rfl⟩)) | (go_at_call 16; ((with_reducible refine (CA.out _ hc).mono ?_); rintro e w' ⟨rfl, hb⟩)))
      go_ret
      exact ⟨rfl, hc.trans (hb.mono hc.size)⟩

end Go.Proofs.YtahdecppngemeaaDoor
