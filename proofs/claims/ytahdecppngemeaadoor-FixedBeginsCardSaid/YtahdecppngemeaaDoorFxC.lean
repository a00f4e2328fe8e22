/-
  Walks of Mul: the program's and the reference's.
-/
import Derived.Test.YtahdecppngemeaaDoorFxA
import Derived.Test.YtahdecppngemeaaDoorShelf
import Derived.Lib.Hide
namespace Go.Proofs.YtahdecppngemeaaDoor
open Go.RowKit

namespace Fx
def top : Int := 1099511627776
/-- the product of two numbers that are not below 0 -/
def prodN (p : Nat) : Int := min ((p : Int) / 1000) 1099511627776
def absZ (x : Int) : Int := max x (-x)
/-- a product, stopped -/
def mul (a b : Int) : Int :=
  if decide (stop a < 0) = decide (stop b < 0) then prodN ((absZ (stop a)).toNat * (absZ (stop b)).toNat)
  else - prodN ((absZ (stop a)).toNat * (absZ (stop b)).toNat)
theorem high_pos {p : Nat} (h : ¬ p < 18446744073709551616) : (0 : Int) < ((p / 18446744073709551616 : Nat) : Int) := by omega
theorem high_no {p : Nat} (h : p < 18446744073709551616) : ((p / 18446744073709551616 : Nat) : Int) = 0 := by omega
theorem low_same {p : Nat} (h : p < 18446744073709551616) : ((p % 18446744073709551616 : Nat) : Int) = p := by omega
end Fx

theorem ret_int64 {a b : Int} (h : a = b) : Ending.returned (.int .i64 a) = .returned (.int .i64 b) := by rw [h]

/-- the library's product, by cases -/
theorem mul64_small (x y p : Nat) (hp : p = x * y) (hx : x < 18446744073709551616) (hy : y < 18446744073709551616) (h : p < 18446744073709551616) (w : World) :
    Calls Tryd.prog 31 #[.int .u64 x, .int .u64 y] w fun e w' => e = .returned (.tuple #[.int .u64 0, .int .u64 (p : Int)]) ∧ w = w' := by
  subst hp
  refine (Tryd.bits_Mul64 x y hx hy w).mono ?_
  rintro e w' ⟨he, hw⟩
  rw [Fx.high_no h, Fx.low_same h] at he
  exact ⟨he, hw.symm⟩
theorem mul64_great (x y p : Nat) (hp : p = x * y) (hx : x < 18446744073709551616) (hy : y < 18446744073709551616) (h : ¬ p < 18446744073709551616) (w : World) :
    Calls Tryd.prog 31 #[.int .u64 x, .int .u64 y] w fun e w' => (∃ hi lo : Int, 0 < hi ∧ e = .returned (.tuple #[.int .u64 hi, .int .u64 lo])) ∧ w = w' := by
  subst hp
  refine (Tryd.bits_Mul64 x y hx hy w).mono ?_
  rintro e w' ⟨he, hw⟩
  exact ⟨⟨_, _, Fx.high_pos h, he⟩, hw.symm⟩

set_option maxHeartbeats 400000 in
theorem product_any (x y : Nat) (w : World) (hx : x ≤ 1099511627776) (hy : y ≤ 1099511627776) :
    Calls Tryd.prog 23 #[.int .i64 (x : Int), .int .i64 (y : Int)] w fun e w' => e = .returned (.int .i64 (Fx.prodN (x * y))) ∧ w = w' := by
  generalize hp : x * y = p
  have H := Lib.hid hp; clear hp
  by_cases h : p < 18446744073709551616
  · go_enter Tryd.func23, Tryd.ntmps23
    go_wp2_with (go_at_call 31; refine (mul64_small x y p H.out.symm (by omega) (by omega) h _).mono ?_; rintro e w' ⟨rfl, rfl⟩)
    all_goals (go_ret; exact ⟨ret_int64 (by unfold Fx.prodN; omega), rfl⟩)
  · go_enter Tryd.func23, Tryd.ntmps23
    go_wp2_with (go_at_call 31; refine (mul64_great x y p H.out.symm (by omega) (by omega) h _).mono ?_; rintro e w' ⟨⟨hi, lo, hh, rfl⟩, rfl⟩)
    go_ret
    exact ⟨ret_int64 (by unfold Fx.prodN; omega), rfl⟩

theorem product_int (a b : Int) (w : World) (ha : 0 ≤ a) (hb : 0 ≤ b) (ha' : a ≤ 1099511627776) (hb' : b ≤ 1099511627776) :
    Calls Tryd.prog 23 #[.int .i64 a, .int .i64 b] w fun e w' => e = .returned (.int .i64 (Fx.prodN (a.toNat * b.toNat))) ∧ w = w' := by
  obtain ⟨x, rfl⟩ := Int.eq_ofNat_of_zero_le ha
  obtain ⟨y, rfl⟩ := Int.eq_ofNat_of_zero_le hb
  exact product_any x y w (by omega) (by omega)

namespace Fx
theorem absZ_neg {x : Int} (h : x < 0) : absZ x = -x := by unfold absZ; omega
theorem absZ_pos {x : Int} (h : ¬ x < 0) : absZ x = x := by unfold absZ; omega
theorem absZ_nn (x : Int) : 0 ≤ absZ x := by unfold absZ; omega
theorem absZ_le {x : Int} (h1 : -1099511627776 ≤ x) (h2 : x ≤ 1099511627776) : absZ x ≤ 1099511627776 := by unfold absZ; omega
theorem prodN_lo (p : Nat) : 0 ≤ prodN p := by unfold prodN; omega
theorem prodN_hi (p : Nat) : prodN p ≤ 1099511627776 := by unfold prodN; omega
theorem mul_lo (a b : Int) : -1099511627776 ≤ mul a b := by
  unfold mul; have := prodN_lo ((absZ (stop a)).toNat * (absZ (stop b)).toNat); have := prodN_hi ((absZ (stop a)).toNat * (absZ (stop b)).toNat); split <;> omega
theorem mul_hi (a b : Int) : mul a b ≤ 1099511627776 := by
  unfold mul; have := prodN_lo ((absZ (stop a)).toNat * (absZ (stop b)).toNat); have := prodN_hi ((absZ (stop a)).toNat * (absZ (stop b)).toNat); split <;> omega
end Fx

theorem product_abs (x y : Int) (w : World) (h1 : -1099511627776 ≤ x) (h2 : x ≤ 1099511627776) (h3 : -1099511627776 ≤ y) (h4 : y ≤ 1099511627776) :
    Calls Tryd.prog 23 #[.int .i64 (max x (-x)), .int .i64 (max y (-y))] w fun e w' => e = .returned (.int .i64 (Fx.prodN ((Fx.absZ x).toNat * (Fx.absZ y).toNat))) ∧ w = w' :=
  product_int (Fx.absZ x) (Fx.absZ y) w (Fx.absZ_nn x) (Fx.absZ_nn y) (Fx.absZ_le h1 h2) (Fx.absZ_le h3 h4)

set_option maxHeartbeats 400000 in
theorem mul_any (a b : Int) (w : World) :
    Calls Tryd.prog 14 #[.int .i64 a, .int .i64 b] w fun e w' => e = .returned (.int .i64 (Fx.mul a b)) ∧ w = w' := by
  have h1 := Fx.stop_lo a
  have h2 := Fx.stop_hi a
  have h3 := Fx.stop_lo b
  have h4 := Fx.stop_hi b
  have p1 := Fx.prodN_lo ((Fx.absZ (Fx.stop a)).toNat * (Fx.absZ (Fx.stop b)).toNat)
  have p2 := Fx.prodN_hi ((Fx.absZ (Fx.stop a)).toNat * (Fx.absZ (Fx.stop b)).toNat)
  cases d1 : decide (Fx.stop a < 0) <;> cases d2 : decide (Fx.stop b < 0)
  all_goals
    have HM : Hid (Fx.mul a b = if decide (Fx.stop a < 0) = decide (Fx.stop b < 0) then Fx.prodN ((Fx.absZ (Fx.stop a)).toNat * (Fx.absZ (Fx.stop b)).toNat) else - Fx.prodN ((Fx.absZ (Fx.stop a)).toNat * (Fx.absZ (Fx.stop b)).toNat)) := Lib.hid rfl
    go_enter Tryd.func14, Tryd.ntmps14
    go_wp2_with (first | (go_at_call 10; refine (stop_any _ _).mono ?_; rintro e w' ⟨rfl, rfl⟩) | (go_at_call 23; refine (product_abs _ _ _ h1 h2 h3 h4).mono ?_; rintro e w' ⟨rfl, rfl⟩))
    go_ret
    exact ⟨ret_int64 (by rw [HM.out, d1, d2]; rfl), rfl⟩

namespace Fx
/-- what the reference reckons of two numbers that are not below 0 -/
theorem ref_great {x y : Int} (hx : 0 ≤ x) (hy : 0 ≤ y) (hq : 0 < x / 1000) (hg : 1099511627776 / (x / 1000) < y) : prodN (x.toNat * y.toNat) = 1099511627776 := by
  have e : ((x.toNat * y.toNat : Nat) : Int) = x * y := by rw [Int.natCast_mul, Int.toNat_of_nonneg hx, Int.toNat_of_nonneg hy]
  unfold prodN; rw [e]
  generalize hqq : x / 1000 = q at *
  have h1 : x = 1000 * q + x % 1000 := by omega
  have h2 : 1099511627776 < y * q := Int.lt_mul_of_ediv_lt hq hg
  have h3 : 0 ≤ x % 1000 * y := Int.mul_nonneg (by omega) hy
  have h4 : x * y = 1000 * (y * q) + x % 1000 * y := by
    conv => lhs; rw [h1]
    rw [Int.add_mul, Int.mul_assoc, Int.mul_comm q y]
  omega
theorem ref_small {x y : Int} (hx : 0 ≤ x) (hy : 0 ≤ y) : prodN (x.toNat * y.toNat) = min (x / 1000 * y + x % 1000 * y / 1000) 1099511627776 := by
  have e : ((x.toNat * y.toNat : Nat) : Int) = x * y := by rw [Int.natCast_mul, Int.toNat_of_nonneg hx, Int.toNat_of_nonneg hy]
  unfold prodN; rw [e]
  generalize hqq : x / 1000 = q at *
  have h1 : x = 1000 * q + x % 1000 := by omega
  have h4 : x * y = 1000 * (q * y) + x % 1000 * y := by
    conv => lhs; rw [h1]
    rw [Int.add_mul, Int.mul_assoc]
  omega
theorem ref_room {q y : Int} (hq : 0 < q) (hg : ¬ 1099511627776 / q < y) : q * y ≤ 1099511627776 := by
  have h : y ≤ 1099511627776 / q := by omega
  rw [Int.mul_comm]; exact Int.mul_le_of_le_ediv hq h
end Fx

theorem rstop_min (n : Int) (w : World) (h : 0 ≤ n) :
    Calls Tryd.prog 11 #[.int .i64 n] w fun e w' => e = .returned (.int .i64 (min n 1099511627776)) ∧ w = w' := by
  refine (rstop_any n w).mono ?_
  rintro e w' ⟨he, hw⟩
  refine ⟨?_, hw⟩
  rw [he]; exact ret_int64 (by unfold Fx.stop; omega)

set_option maxHeartbeats 1000000 in
theorem rmul_any (a b : Int) (w : World) :
    Calls Tryd.prog 15 #[.int .i64 a, .int .i64 b] w fun e w' => e = .returned (.int .i64 (Fx.mul a b)) ∧ w = w' := by
  have h1 := Fx.stop_lo a
  have h2 := Fx.stop_hi a
  have h3 := Fx.stop_lo b
  have h4 := Fx.stop_hi b
  have HM : Hid (Fx.mul a b = if decide (Fx.stop a < 0) = decide (Fx.stop b < 0) then Fx.prodN ((Fx.absZ (Fx.stop a)).toNat * (Fx.absZ (Fx.stop b)).toNat) else - Fx.prodN ((Fx.absZ (Fx.stop a)).toNat * (Fx.absZ (Fx.stop b)).toNat)) := Lib.hid rfl
  have x1 := Fx.absZ_nn (Fx.stop a)
  have x2 := Fx.absZ_le h1 h2
  have y1 := Fx.absZ_nn (Fx.stop b)
  have y2 := Fx.absZ_le h3 h4
  have r1 : 0 ≤ Fx.absZ (Fx.stop a) % 1000 * Fx.absZ (Fx.stop b) := Int.mul_nonneg (by omega) y1
  have r2 : Fx.absZ (Fx.stop a) % 1000 * Fx.absZ (Fx.stop b) ≤ 999 * 1099511627776 := Int.mul_le_mul (by omega) y2 y1 (by omega)
  have r3 : 0 ≤ Fx.absZ (Fx.stop a) / 1000 * Fx.absZ (Fx.stop b) := Int.mul_nonneg (by omega) y1
  have fin : (1099511627776 = Fx.prodN ((Fx.absZ (Fx.stop a)).toNat * (Fx.absZ (Fx.stop b)).toNat) ∧ 0 < Fx.absZ (Fx.stop a) / 1000 ∧ 1099511627776 / (Fx.absZ (Fx.stop a) / 1000) < Fx.absZ (Fx.stop b)) ∨
      (min (Fx.absZ (Fx.stop a) / 1000 * Fx.absZ (Fx.stop b) + Fx.absZ (Fx.stop a) % 1000 * Fx.absZ (Fx.stop b) / 1000) 1099511627776 = Fx.prodN ((Fx.absZ (Fx.stop a)).toNat * (Fx.absZ (Fx.stop b)).toNat) ∧ Fx.absZ (Fx.stop a) / 1000 * Fx.absZ (Fx.stop b) ≤ 1099511627776 ∧
        (¬ 0 < Fx.absZ (Fx.stop a) / 1000 ∨ (0 < Fx.absZ (Fx.stop a) / 1000 ∧ ¬ 1099511627776 / (Fx.absZ (Fx.stop a) / 1000) < Fx.absZ (Fx.stop b)))) := by
    by_cases q1 : 0 < Fx.absZ (Fx.stop a) / 1000
    · by_cases q2 : 1099511627776 / (Fx.absZ (Fx.stop a) / 1000) < Fx.absZ (Fx.stop b)
      · exact Or.inl ⟨(Fx.ref_great x1 y1 q1 q2).symm, q1, q2⟩
      · exact Or.inr ⟨(Fx.ref_small x1 y1).symm, Fx.ref_room q1 q2, Or.inr ⟨q1, q2⟩⟩
    · refine Or.inr ⟨(Fx.ref_small x1 y1).symm, ?_, Or.inl q1⟩
      have : Fx.absZ (Fx.stop a) / 1000 = 0 := by omega
      rw [this]; simp
  generalize Fx.prodN ((Fx.absZ (Fx.stop a)).toNat * (Fx.absZ (Fx.stop b)).toNat) = P at HM fin
  generalize hx : Fx.absZ (Fx.stop a) = x at *
  generalize hy : Fx.absZ (Fx.stop b) = y at *
  cases d1 : decide (Fx.stop a < 0) <;> cases d2 : decide (Fx.stop b < 0)
  all_goals
    rw [d1, d2] at HM
    first | rw [Fx.absZ_neg (of_decide_eq_true d1)] at hx | rw [Fx.absZ_pos (of_decide_eq_false d1)] at hx
    first | rw [Fx.absZ_neg (of_decide_eq_true d2)] at hy | rw [Fx.absZ_pos (of_decide_eq_false d2)] at hy
    have n1 : Fx.stop a < 0 ∨ ¬ Fx.stop a < 0 := Classical.em _
    have n2 : Fx.stop b < 0 ∨ ¬ Fx.stop b < 0 := Classical.em _
    first | replace n1 := of_decide_eq_true d1 | replace n1 := of_decide_eq_false d1
    first | replace n2 := of_decide_eq_true d2 | replace n2 := of_decide_eq_false d2
    first | (have ex : Fx.stop a = -x := by omega) | (have ex : Fx.stop a = x := hx)
    first | (have ey : Fx.stop b = -y := by omega) | (have ey : Fx.stop b = y := hy)
    clear hx hy d1 d2
    rw [ex] at n1 h1 h2
    rw [ey] at n2 h3 h4
    rcases fin with ⟨fe, f1, f2⟩ | ⟨fe, f0, f1 | ⟨f1, f2⟩⟩
    all_goals
      have FE := Lib.hid fe; clear fe
      go_enter Tryd.func15, Tryd.ntmps15
      go_wp2_with (first | (go_at_call 11; refine (rstop_min _ _ (by omega)).mono ?_; rintro e w' ⟨rfl, rfl⟩) | (go_at_call 11; refine (rstop_any _ _).mono ?_; rintro e w' ⟨rfl, rfl⟩))
      go_ret
      exact ⟨ret_int64 (by rw [HM.out, ← FE.out]; rfl), rfl⟩

end Go.Proofs.YtahdecppngemeaaDoor
