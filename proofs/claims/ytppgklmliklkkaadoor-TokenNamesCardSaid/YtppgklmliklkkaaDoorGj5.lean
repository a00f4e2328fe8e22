/-
  The walk of the law TokenNames.
-/
import Derived.Test.YtppgklmliklkkaaDoorGj2
import Derived.Test.YtppgklmliklkkaaDoorGj4
namespace Go.Proofs.YtppgklmliklkkaaDoor
open Go.RowKit

set_option maxHeartbeats 4000000 in
set_option maxRecDepth 100000 in
theorem tokenNames_walk (s : ByteArray) (w : World) (hs : s.size ≤ maxLen) (hT : UTab w.heap.size w) :
    Calls Tryd.prog 6 #[.string s] w (Yes w) := by
  unfold maxLen at hs
  have CA : Hid (∀ w1, Below w.heap.size w w1 → Calls Tryd.prog 8 #[] w1 (Yes w1)) := Lib.hid fun w1 h => awake_any w1 (hT.next h)
  by_cases g1 : s.size ≤ 200
  · by_cases g0 : 0 < s.size
    · by_cases h1 : 97 ≤ (s[0].toNat : Int) ∧ (s[0].toNat : Int) ≤ 122
      · exact tokenNames_low s w hT g1 g0 h1
      · by_cases h2 : 65 ≤ (s[0].toNat : Int) ∧ (s[0].toNat : Int) ≤ 90
        · exact tokenNames_up s w hT g1 g0 h2
        · clear hT
          rcases (show (s[0].toNat : Int) ≤ 64 ∨ (91 ≤ (s[0].toNat : Int) ∧ (s[0].toNat : Int) ≤ 96) ∨ 123 ≤ (s[0].toNat : Int) by omega) with h3 | h3 | h3
          all_goals
            clear h1 h2
            try have d90 : decide ((s[0].toNat : Int) ≤ 90) = false := decide_eq_false (by omega)
            try have d122 : decide ((s[0].toNat : Int) ≤ 122) = false := decide_eq_false (by omega)
            go_enter Tryd.func6, Tryd.ntmps6
            go_wp2_with (go_at_call 8; ((with_reducible refine (CA.out _ (Below.refl _ _)).mono ?_); rintro e w4 ⟨rfl, b4⟩))
            go_ret
            exact ⟨rfl, b4⟩
    · clear hT
      go_enter Tryd.func6, Tryd.ntmps6
      go_wp2_with (go_at_call 8; ((with_reducible refine (CA.out _ (Below.refl _ _)).mono ?_); rintro e w4 ⟨rfl, b4⟩))
      go_ret
      exact ⟨rfl, b4⟩
  · have g3 : 200 < s.size := by omega
    clear hT
    go_enter Tryd.func6, Tryd.ntmps6
    go_wp2_with (go_at_call 8; ((with_reducible refine (CA.out _ (Below.refl _ _)).mono ?_); rintro e w4 ⟨rfl, b4⟩))
    go_ret
    exact ⟨rfl, b4⟩
end Go.Proofs.YtppgklmliklkkaaDoor
