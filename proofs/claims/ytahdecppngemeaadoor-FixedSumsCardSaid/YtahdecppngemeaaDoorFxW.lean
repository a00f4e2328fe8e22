/-
  The walk of awake: what the document fixes of some decimals.
-/
import Derived.Test.YtahdecppngemeaaDoorFxE
import Derived.Test.YtahdecppngemeaaDoorFxI
import Derived.Test.YtahdecppngemeaaDoorFxC
import Derived.Test.YtahdecppngemeaaDoorFxK
import Derived.Test.YtahdecppngemeaaDoorFxL
namespace Go.Proofs.YtahdecppngemeaaDoor
open Go.RowKit

theorem num_a : Fx.num [45, 46, 53, 101, 49] = -5000 := by decide +kernel
theorem dec_a : Fx.isDec [45, 46, 53, 101, 49] = true := by decide +kernel
theorem dec_b : Fx.isDec [49, 46] = false := by decide +kernel
theorem len_a : Fx.len [49, 46, 53, 101, 109] = 3 := by decide +kernel
theorem mul_a : Fx.mul 1500 2000 = 3000 := by decide +kernel
theorem text_a : Fx.text 1500 = [49, 46, 53] := by
  have e1 : Fx.text 1500 = Fx.textOf false 1500 := rfl
  rw [e1, Fx.textOf, if_neg (by decide), Fx.frac_eq (by decide) (by decide), show 1500 / 1000 = 1 from rfl, Lib.decDigits_one (by decide)]
  rfl

theorem gives_string {l : List UInt8} {k B : Nat} {w : World} {e : Ending} {w' : World} (h : Gives l k B w e w') : e = .returned (.string ⟨l.toArray⟩) ∧ Below B w w' := by
  obtain ⟨t, rfl, hs, _, hb⟩ := h
  exact ⟨string_is hs.out, hb⟩

def Yes (w : World) (e : Ending) (w' : World) : Prop := e = .returned (.bool true) ∧ Below w.heap.size w w'

set_option maxRecDepth 100000 in
set_option maxHeartbeats 1000000 in
theorem awake_any (B : Nat) (w : World) (hB : B ≤ w.heap.size) (hT : Tab B w) : Calls Tryd.prog 16 #[] w (Yes w) := by
  have C1 : Hid (∀ w : World, Calls Tryd.prog 17 #[.string ⟨#[45, 46, 53, 101, 49]⟩] w fun e w' => e = .returned (.tuple #[.int .i64 (-5000), .bool true]) ∧ Below w.heap.size w w') := Lib.hid fun w => by
    have := parse_yes ⟨#[45, 46, 53, 101, 49]⟩ w (by decide) dec_a
    rw [show Fx.num (⟨#[45, 46, 53, 101, 49]⟩ : ByteArray).data.toList = -5000 from num_a] at this
    exact this
  have C2 : Hid (∀ w : World, Calls Tryd.prog 17 #[.string ⟨#[49, 46]⟩] w fun e w' => e = .returned (.tuple #[.int .i64 0, .bool false]) ∧ Below w.heap.size w w') := Lib.hid fun w => parse_no ⟨#[49, 46]⟩ w (by decide) dec_b
  have C3 : Hid (∀ w' : World, Below w.heap.size w w' → Calls Tryd.prog 21 #[.int .i64 1500] w' fun e w'' => e = .returned (.string ⟨#[49, 46, 53]⟩) ∧ Below w'.heap.size w' w'') := Lib.hid fun w' hb => by
    refine (print_any 1500 B w' (Nat.le_trans hB hb.size) (Lib.TabBelow.on hT (hb.mono hB))).mono fun e w'' h => ?_
    have := gives_string h
    rw [text_a] at this
    exact this
  have C4 : Hid (∀ w : World, Calls Tryd.prog 19 #[.string ⟨#[49, 46, 53, 101, 109]⟩] w fun e w' => e = .returned (.int .i64 3) ∧ Below w.heap.size w w') := Lib.hid fun w => by
    have := length_any ⟨#[49, 46, 53, 101, 109]⟩ w (by decide)
    rw [show Fx.len (⟨#[49, 46, 53, 101, 109]⟩ : ByteArray).data.toList = 3 from len_a] at this
    exact this
  have C5 : Hid (∀ w : World, Calls Tryd.prog 14 #[.int .i64 1500, .int .i64 2000] w fun e w' => e = .returned (.int .i64 3000) ∧ w = w') := Lib.hid fun w => by
    have := mul_any 1500 2000 w
    rw [mul_a] at this
    exact this
  clear hT
  go_enter Tryd.func16, Tryd.ntmps16
  go_wp2_with (first | (go_at_call 17; ((with_reducible refine (C1.out _).mono ?_); rintro e w1 ⟨rfl, hb1⟩)) | (go_at_call 17; ((with_reducible refine (C2.out _).mono ?_); rintro e w2 ⟨rfl, hb2⟩)) | (go_at_call 21; ((with_reducible refine (C3.out _ (hb1.trans (hb2.mono hb1.size))).mono ?_); rintro e w3 ⟨rfl, hb3⟩)) | (go_at_call 19; ((with_reducible refine (C4.out _).mono ?_); rintro e w4 ⟨rfl, hb4⟩)) | (go_at_call 14; ((with_reducible refine (C5.out _).mono ?_); rintro e w5 ⟨rfl, rfl⟩)))
  go_ret
  have z1 := hb1.size
  have z2 := hb2.size
  have z3 := hb3.size
  exact ⟨rfl, ((hb1.trans (hb2.mono z1)).trans (hb3.mono (Nat.le_trans z1 z2))).trans (hb4.mono (Nat.le_trans z1 (Nat.le_trans z2 z3)))⟩

end Go.Proofs.YtahdecppngemeaaDoor
