/-
  The walk of the statement FixedShifts, at every exponent.
-/
import Derived.Test.YtahdecppngemeaaDoorFxT3
import Derived.Test.YtahdecppngemeaaDoorFxT2
import Derived.Test.YtahdecppngemeaaDoorFxT1
import Derived.Test.YtahdecppngemeaaDoorFxT0
import Derived.Test.YtahdecppngemeaaDoorFxTm1
import Derived.Test.YtahdecppngemeaaDoorFxTm2
import Derived.Test.YtahdecppngemeaaDoorFxTm3
namespace Go.Proofs.YtahdecppngemeaaDoor
open Go.RowKit

set_option maxRecDepth 100000 in
set_option maxHeartbeats 1000000 in
theorem shifts_any (n x : Int) (B : Nat) (w : World) (hB : B ≤ w.heap.size) (hT : Tab B w) :
    Calls Tryd.prog 7 #[.int .i64 n, .int .i64 x] w (Yes w) := by
  by_cases l1 : n < -1073741824
  · have CA := Lib.hid (awake_any B w hB hT)
    clear hT
    go_enter Tryd.func7, Tryd.ntmps7
    go_wp2_with (go_at_call 16; ((with_reducible refine (CA.out).mono ?_); rintro e w' ⟨rfl, hb⟩))
    go_ret
    exact ⟨rfl, hb⟩
  by_cases l2 : 1073741824 < n
  · have CA := Lib.hid (awake_any B w hB hT)
    clear hT
    go_enter Tryd.func7, Tryd.ntmps7
    go_wp2_with (go_at_call 16; ((with_reducible refine (CA.out).mono ?_); rintro e w' ⟨rfl, hb⟩))
    go_ret
    exact ⟨rfl, hb⟩
  by_cases l3 : x < -3
  · have CA := Lib.hid (awake_any B w hB hT)
    clear hT
    go_enter Tryd.func7, Tryd.ntmps7
    go_wp2_with (go_at_call 16; ((with_reducible refine (CA.out).mono ?_); rintro e w' ⟨rfl, hb⟩))
    go_ret
    exact ⟨rfl, hb⟩
  by_cases l4 : 3 < x
  · have CA := Lib.hid (awake_any B w hB hT)
    clear hT
    go_enter Tryd.func7, Tryd.ntmps7
    go_wp2_with (go_at_call 16; ((with_reducible refine (CA.out).mono ?_); rintro e w' ⟨rfl, hb⟩))
    go_ret
    exact ⟨rfl, hb⟩
  have h1 : -1073741824 ≤ n := by omega
  have h2 : n ≤ 1073741824 := by omega
  obtain rfl | rfl | rfl | rfl | rfl | rfl | rfl : x = -3 ∨ x = -2 ∨ x = -1 ∨ x = 0 ∨ x = 1 ∨ x = 2 ∨ x = 3 := by omega
  · exact shifts_m3 n B w hB hT h1 h2
  · exact shifts_m2 n B w hB hT h1 h2
  · exact shifts_m1 n B w hB hT h1 h2
  · exact shifts_0 n B w hB hT h1 h2
  · exact shifts_1 n B w hB hT h1 h2
  · exact shifts_2 n B w hB hT h1 h2
  · exact shifts_3 n B w hB hT h1 h2

end Go.Proofs.YtahdecppngemeaaDoor
