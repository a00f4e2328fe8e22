/-
  The walk of utf8.FullRune.
-/
import Derived.Test.YtakafhjnkcilkaaDoorRuB
namespace Go.Proofs.YtakafhjnkcilkaaDoor
open Go.RowKit Go.Lib

namespace Ru
theorem need_of {x : Nat} (h : firstT x < 240) : need (x : Int) ≠ 0 := fun h0 => by
  by_cases h1 : x < 128
  · rw [firstT_ascii h1] at h; omega
  · rw [firstT_none h1 h0] at h; omega
theorem ascii_of {x : Nat} (h : firstT x = 240) : x < 128 := by
  by_cases h1 : x < 128
  · exact h1
  · by_cases h0 : need (x : Int) = 0
    · rw [firstT_none h1 h0] at h; omega
    · have := (firstT_some h0).1; omega
theorem none_of {x : Nat} (h : firstT x = 241) : need (x : Int) = 0 := by
  by_cases h0 : need (x : Int) = 0
  · exact h0
  · have := (firstT_some h0).1; omega
theorem full_t {m a b c : Int} (h : (a < 128 ∨ need a ≤ m) ∨ (1 < m ∧ (b < lo2 a ∨ hi2 a < b)) ∨ (2 < m ∧ (c < 128 ∨ 191 < c))) : full m a b c = true := decide_eq_true h
theorem full_f {m a b c : Int} (h : ¬ ((a < 128 ∨ need a ≤ m) ∨ (1 < m ∧ (b < lo2 a ∨ hi2 a < b)) ∨ (2 < m ∧ (c < 128 ∨ 191 < c)))) : full m a b c = false := decide_eq_false h
end Ru

theorem full_end (w : World) (o : Obj) (n : Nat) : Below w.heap.size w ((w.alloc o).drewN n) := below_drewN ((Below.refl _ _).alloc (Nat.le_refl _) _) _
end Go.Proofs.YtakafhjnkcilkaaDoor
