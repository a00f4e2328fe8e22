/-
  Walks of the small functions of fixed and of the reference: Stop, Add, afterSign, afterDigits, digit.
-/
import Derived.Test.YtahdecppngemeaaDoorRows
import Derived.WalkKit
import Derived.WalkSpells
import Derived.WalkLawsBesides
namespace Go.Proofs.YtahdecppngemeaaDoor
open Go.RowKit

theorem ret_int {k : IntKind} {a b : Int} (h : a = b) : Ending.returned (.int k a) = .returned (.int k b) := by rw [h]
theorem ret_bool {a b : Bool} (h : a = b) : Ending.returned (.bool a) = .returned (.bool b) := by rw [h]

namespace Fx
/-- a number, stopped -/
def stop (n : Int) : Int := max (-1099511627776) (min n 1099511627776)
theorem stop_lo (n : Int) : -1099511627776 ≤ stop n := by unfold stop; omega
theorem stop_hi (n : Int) : stop n ≤ 1099511627776 := by unfold stop; omega
theorem stop_id {n : Int} (h1 : -1099511627776 ≤ n) (h2 : n ≤ 1099511627776) : stop n = n := by unfold stop; omega
theorem stop_stop (n : Int) : stop (stop n) = stop n := stop_id (stop_lo n) (stop_hi n)
end Fx

set_option maxHeartbeats 400000 in
theorem stop_any (n : Int) (w : World) :
    Calls Tryd.prog 10 #[.int .i64 n] w fun e w' => e = .returned (.int .i64 (Fx.stop n)) ∧ w = w' := by
  go_enter Tryd.func10, Tryd.ntmps10
  go_wp2
  all_goals (go_ret; exact ⟨ret_int (by unfold Fx.stop; omega), rfl⟩)

set_option maxHeartbeats 400000 in
theorem rstop_any (n : Int) (w : World) :
    Calls Tryd.prog 11 #[.int .i64 n] w fun e w' => e = .returned (.int .i64 (Fx.stop n)) ∧ w = w' := by
  go_enter Tryd.func11, Tryd.ntmps11
  go_wp2
  all_goals (go_ret; exact ⟨ret_int (by unfold Fx.stop; omega), rfl⟩)

set_option maxHeartbeats 400000 in
theorem add_any (a b : Int) (w : World) :
    Calls Tryd.prog 12 #[.int .i64 a, .int .i64 b] w fun e w' => e = .returned (.int .i64 (Fx.stop (Fx.stop a + Fx.stop b))) ∧ w = w' := by
  have h1 := Fx.stop_lo a
  have h2 := Fx.stop_hi a
  have h3 := Fx.stop_lo b
  have h4 := Fx.stop_hi b
  go_enter Tryd.func12, Tryd.ntmps12
  go_wp2_with (go_at_call 10; refine (stop_any _ _).mono ?_; rintro e w' ⟨rfl, rfl⟩)
  go_ret
  exact ⟨rfl, rfl⟩

set_option maxHeartbeats 400000 in
theorem radd_any (a b : Int) (w : World) :
    Calls Tryd.prog 13 #[.int .i64 a, .int .i64 b] w fun e w' => e = .returned (.int .i64 (Fx.stop (Fx.stop a + Fx.stop b))) ∧ w = w' := by
  have h1 := Fx.stop_lo a
  have h2 := Fx.stop_hi a
  have h3 := Fx.stop_lo b
  have h4 := Fx.stop_hi b
  go_enter Tryd.func13, Tryd.ntmps13
  go_wp2_with (go_at_call 11; refine (rstop_any _ _).mono ?_; rintro e w' ⟨rfl, rfl⟩)
  go_ret
  exact ⟨rfl, rfl⟩

end Go.Proofs.YtahdecppngemeaaDoor
