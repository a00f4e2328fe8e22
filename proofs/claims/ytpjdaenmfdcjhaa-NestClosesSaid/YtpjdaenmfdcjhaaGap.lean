/-
  Plain words: brackets that belong together lie apart, or one within the other one. No run of the program in this text.
-/
import Derived.Test.YtpjdaenmfdcjhaaGac
namespace Go.Proofs.Ytpjdaenmfdcjhaa
namespace Ns
open Tk

theorem ends_shut {ts : List Tok} {a : Nat} (ha : a < ts.length) (h0 : 0 ≤ Ru.g (ends ts) a) (hn : Ru.g (ends ts) a < ts.length) :
    ∃ j, a < j ∧ j < ts.length ∧ closes ts (opn ts j) j ∧ top (opn ts j) = a ∧ Ru.g (ends ts) a = (j : Int) := by
  unfold Ru.g ends at *
  have hm : a ∉ opn ts ts.length := fun hm => by rw [enF_open hm] at hn; omega
  rcases enF_cases ha hm with h | h
  · rw [h.2] at h0; omega
  · exact h
theorem ends_cases {ts : List Tok} {a : Nat} (ha : a < ts.length) : Ru.g (ends ts) a = -1 ∨ ((a : Int) < Ru.g (ends ts) a ∧ Ru.g (ends ts) a ≤ ts.length) := by
  have := ends_range ha
  unfold Ru.g
  omega
theorem within1 {ts : List Tok} {a b : Nat} (ha : a < ts.length) (hb : b < ts.length) : ¬ (0 ≤ Ru.g (ends ts) a ∧ 0 ≤ Ru.g (ends ts) b ∧ a < b ∧ (b : Int) < Ru.g (ends ts) a ∧ Ru.g (ends ts) a < Ru.g (ends ts) b) := by
  intro ⟨h1, h2, h3, h4, h5⟩
  have hrb := ends_cases hb
  obtain ⟨j, j1, j2, j3, j4, j5⟩ := ends_shut ha h1 (by omega)
  by_cases hm : b ∈ opn ts j
  · have := top_max (opn_sorted ts j) hm
    omega
  · rcases enF_cases (k := j) (x := b) (by omega) hm with h | ⟨i, i1, i2, i3, i4, _⟩
    · have hr := ends_range hb
      unfold Ru.g at h2
      rcases hr with hr | hr
      · omega
      · exact h.1 hr.1
    · have e := enF_at_pop (m := ts.length) i3 i4 (by omega)
      have e2 : Ru.g (ends ts) b = (i : Int) := e
      omega
theorem within2 {ts : List Tok} {a b : Nat} (ha : a < ts.length) (hb : b < ts.length) : ¬ (a ≠ b ∧ 0 ≤ Ru.g (ends ts) a ∧ Ru.g (ends ts) a < ts.length ∧ Ru.g (ends ts) a = Ru.g (ends ts) b) := by
  intro ⟨h1, h2, h3, h4⟩
  obtain ⟨j, j1, j2, j3, j4, j5⟩ := ends_shut ha h2 h3
  obtain ⟨i, i1, i2, i3, i4, i5⟩ := ends_shut hb (by omega) (by omega)
  have e : i = j := by omega
  subst e
  exact h1 (j4.symm.trans i4)
end Ns
end Go.Proofs.Ytpjdaenmfdcjhaa
