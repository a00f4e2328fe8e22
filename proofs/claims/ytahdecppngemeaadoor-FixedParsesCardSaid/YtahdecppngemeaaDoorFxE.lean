/-
  The walks of Length: the program's and the reference's.
-/
import Derived.Test.YtahdecppngemeaaDoorFxD
namespace Go.Proofs.YtahdecppngemeaaDoor
open Go.RowKit

namespace Fx
/-- how many bytes the longest decimal has -/
def len (l : List UInt8) : Nat := if spD l = spS l then 0 else spE l
theorem len_hi (l : List UInt8) : len l ≤ l.length := by unfold len; split; omega; exact spE_hi l
end Fx

theorem field_end (a b c d : Int) (w : World) : (Instr.field 36 (.agg #[.int .i64 a, .int .i64 b, .int .i64 c, .int .i64 d]) 3).run Tryd.prog w = .ok (.int .i64 d) w := by kernel_rfl

set_option maxRecDepth 100000 in
set_option maxHeartbeats 400000 in
theorem length_any (s : ByteArray) (w : World) (hs : s.size ≤ maxLen) :
    Calls Tryd.prog 19 #[.string s] w fun e w' => e = .returned (.int .i64 (Fx.len s.data.toList : Nat)) ∧ Below w.heap.size w w' := by
  have HL : Hid (Fx.len s.data.toList = if Fx.spD s.data.toList = Fx.spS s.data.toList then 0 else Fx.spE s.data.toList) := Lib.hid rfl
  have C : (∃ m, m = Fx.len s.data.toList ∧ ∃ x y z : Int, ∀ w : World, Calls Tryd.prog 24 #[.string s] w fun e w' => e = .returned (parts x y z (m : Nat)) ∧ Below w.heap.size w w') := by
    by_cases hn : Fx.spD s.data.toList = Fx.spS s.data.toList
    · exact ⟨0, by unfold Fx.len; rw [if_pos hn], 0, 0, 0, fun w => split_no s w hs hn⟩
    · exact ⟨Fx.spE s.data.toList, by unfold Fx.len; rw [if_neg hn], _, _, _, fun w => split_yes s w hs hn⟩
  clear HL
  obtain ⟨m, hm, x, y, z, C⟩ := C
  have C := Lib.hid C
  rw [← hm]
  clear hm hs
  have hf := field_end x y z m
  go_enter Tryd.func19, Tryd.ntmps19
  go_wp2_with fail
  refine (C.out _).mono ?_
  rintro e w' ⟨rfl, hb⟩
  unfold parts
  go_wp2_with fail
  go_ret
  exact ⟨rfl, hb⟩

end Go.Proofs.YtahdecppngemeaaDoor
