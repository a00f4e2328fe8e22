/-
  Plain mathematics: the longest decimal with which a text begins is one, and no longer beginning is.
-/
import Derived.Test.YtahdecppngemeaaDoorFxM
namespace Go.Proofs.YtahdecppngemeaaDoor
namespace Fx
theorem at_take (l : List UInt8) {k i : Nat} (h : i < k) : at' (l.take k) i = at' l i := by
  unfold at'; rw [List.getD_eq_getElem?_getD, List.getD_eq_getElem?_getD, List.getElem?_take_of_lt h]
theorem at_take_past (l : List UInt8) {k i : Nat} (h : k ≤ i) : at' (l.take k) i = 0 := by
  apply at_zero; rw [List.length_take]; omega
theorem sgn_take (l : List UInt8) {k i : Nat} (h : i < k) : sgn (l.take k) i = sgn l i := by
  unfold sgn; rw [at_take l h]
theorem sgn_take_past (l : List UInt8) {k i : Nat} (h : k ≤ i) : sgn (l.take k) i = i := by
  unfold sgn; rw [at_take_past l h]; exact if_neg (by decide)
theorem dig_past {l : List UInt8} {a : Nat} (h : l.length ≤ a) : dig l a = a := dig_no l a (by rw [at_zero (by omega)]; exact isD_zero)
/-- the digits that stand from a place on, of a beginning -/
theorem dig_take (l : List UInt8) (k : Nat) : ∀ n a, n = k - a → a ≤ k → dig (l.take k) a = min (dig l a) k := by
  intro n
  induction n with
  | zero =>
    intro a hn ha
    have h0 : a = k := by omega
    subst h0
    rw [dig_past (by rw [List.length_take]; omega)]
    have := dig_lo l a; omega
  | succ n ih =>
    intro a hn ha
    have hlt : a < k := by omega
    cases hd : isD (at' l a)
    · rw [dig_no (l.take k) a (by rw [at_take l hlt]; exact hd), dig_no l a hd]; omega
    · rw [dig_yes (l.take k) a (by rw [at_take l hlt]; exact hd), dig_yes l a hd]
      exact ih (a + 1) (by omega) (by omega)
theorem dig_take' (l : List UInt8) {k a : Nat} (h : a ≤ k) : dig (l.take k) a = min (dig l a) k := dig_take l k _ a rfl h

theorem len_take {l : List UInt8} {k : Nat} (h : k ≤ l.length) : (l.take k).length = k := by rw [List.length_take]; omega

theorem spS_take (l : List UInt8) {k : Nat} (h : 0 < k) : spS (l.take k) = spS l := sgn_take l h
theorem spW_take (l : List UInt8) {k : Nat} (h : 0 < k) : spW (l.take k) = min (spW l) k := by
  have h1 := spS_one l
  have e : spW (l.take k) = dig (l.take k) (spS (l.take k)) := rfl
  rw [e, spS_take l h, dig_take' l (by omega)]; rfl

theorem len_pos {l : List UInt8} (h : spD l ≠ spS l) : len l = spE l := by unfold len; rw [if_neg h]
theorem spDof_is (l : List UInt8) (w : Nat) : (at' l w = 46 ∧ w + 1 < dig l (w + 1) ∧ spDof l w = dig l (w + 1)) ∨ (¬ (at' l w = 46 ∧ w + 1 < dig l (w + 1)) ∧ spDof l w = w) := by
  unfold spDof
  by_cases h : at' l w = 46 ∧ w + 1 < dig l (w + 1)
  · rw [if_pos h]; exact Or.inl ⟨h.1, h.2, rfl⟩
  · rw [if_neg h]; exact Or.inr ⟨h, rfl⟩
theorem spEof_is (l : List UInt8) (d : Nat) : ((at' l d = 101 ∨ at' l d = 69) ∧ sgn l (d + 1) < dig l (sgn l (d + 1)) ∧ spEof l d = dig l (sgn l (d + 1))) ∨ (¬ ((at' l d = 101 ∨ at' l d = 69) ∧ sgn l (d + 1) < dig l (sgn l (d + 1))) ∧ spEof l d = d) := by
  unfold spEof
  by_cases h : (at' l d = 101 ∨ at' l d = 69) ∧ sgn l (d + 1) < dig l (sgn l (d + 1))
  · rw [if_pos h]; exact Or.inl ⟨h.1, h.2, rfl⟩
  · rw [if_neg h]; exact Or.inr ⟨h, rfl⟩

/-- no beginning that is longer than the longest decimal is one -/
theorem begins_no {l : List UInt8} {k : Nat} (hk : k ≤ l.length) (hl : len l < k) : isDec (l.take k) = false := by
  cases hd : isDec (l.take k)
  · rfl
  exfalso
  obtain ⟨hn, hE⟩ := isDec_of hd
  rw [len_take hk] at hE
  have k0 : 0 < k := by omega
  have eS := spS_take l k0
  have eW := spW_take l k0
  have l1 := spW_lo l
  have l2 := spD_lo l
  have l3 := spE_lo l
  have s1 := spS_one l
  rw [eS] at hn
  have fin : spD l ≠ spS l → spE l < k := fun h => by rw [len_pos h] at hl; exact hl
  have dD : spD (l.take k) = spDof (l.take k) (spW (l.take k)) := rfl
  have dE : spE (l.take k) = spEof (l.take k) (spD (l.take k)) := rfl
  by_cases hW : k ≤ spW l
  · rw [show min (spW l) k = k by omega] at eW
    rw [eW] at dD
    have e1 : spDof (l.take k) k = k := by
      rcases spDof_is (l.take k) k with ⟨h, _⟩ | ⟨_, h⟩
      · rw [at_take_past l (Nat.le_refl _)] at h; exact absurd h (by decide)
      · exact h
    have : spD l ≠ spS l := by omega
    have := fin this
    omega
  · rw [show min (spW l) k = spW l by omega] at eW
    rw [eW] at dD
    -- the part behind the point
    have hcase : (spD (l.take k) = k ∧ k ≤ spD l) ∨ (spD (l.take k) = spD l ∧ spD l < k) ∨ (spD (l.take k) = spW l ∧ at' l (spW l) = 46) := by
      have d0 : spD l = spDof l (spW l) := rfl
      rcases spDof_is (l.take k) (spW l) with ⟨a1, a2, a3⟩ | ⟨a1, a2⟩
      · rw [at_take l (by omega)] at a1
        rw [dig_take' l (by omega)] at a2 a3
        rcases spDof_is l (spW l) with ⟨_, b2, b3⟩ | ⟨b1, _⟩
        · by_cases hg : k ≤ dig l (spW l + 1)
          · left; omega
          · right; left; omega
        · exact absurd ⟨a1, by omega⟩ b1
      · by_cases a46 : at' l (spW l) = 46
        · right; right; exact ⟨by omega, a46⟩
        · right; left
          rcases spDof_is l (spW l) with ⟨b1, _⟩ | ⟨_, b2⟩
          · exact absurd b1 a46
          · omega
    rcases hcase with ⟨c1, c2⟩ | ⟨c1, c2⟩ | ⟨c1, c2⟩
    · have : spD l ≠ spS l := by omega
      have := fin this
      omega
    · have hne : spD l ≠ spS l := by omega
      have hE2 := fin hne
      rw [c1] at dE
      have d0 : spE l = spEof l (spD l) := rfl
      rcases spEof_is (l.take k) (spD l) with ⟨a1, a2, a3⟩ | ⟨_, a2⟩
      · rw [at_take l c2] at a1
        by_cases h1 : spD l + 1 < k
        · rw [sgn_take l h1] at a2 a3
          have hs : sgn l (spD l + 1) ≤ spD l + 2 := by unfold sgn; split <;> omega
          rw [dig_take' l (by omega)] at a2 a3
          rcases spEof_is l (spD l) with ⟨_, b2, b3⟩ | ⟨b1, _⟩
          · omega
          · exact absurd ⟨a1, by omega⟩ b1
        · rw [sgn_take_past l (by omega), dig_past (by rw [len_take hk]; omega)] at a2
          omega
      · omega
    · rw [c1] at dE
      have : spEof (l.take k) (spW l) = spW l := by
        rcases spEof_is (l.take k) (spW l) with ⟨a1, _⟩ | ⟨_, a2⟩
        · rw [at_take l (by omega), c2] at a1
          exact absurd a1 (by decide)
        · exact a2
      omega

/-- the longest decimal is one -/
theorem begins_yes {l : List UInt8} (h0 : 0 < len l) : isDec (l.take (len l)) = true := by
  have hn : spD l ≠ spS l := by
    intro h
    unfold len at h0; rw [if_pos h] at h0; omega
  rw [len_pos hn] at *
  have hk := spE_hi l
  have eS := spS_take l h0
  have eW := spW_take l h0
  have l1 := spW_lo l
  have l2 := spD_lo l
  have l3 := spE_lo l
  have s1 := spS_one l
  generalize hkk : spE l = k at *
  rw [show min (spW l) k = spW l by omega] at eW
  have dD : spD (l.take k) = spDof (l.take k) (spW (l.take k)) := rfl
  have dE : spE (l.take k) = spEof (l.take k) (spD (l.take k)) := rfl
  rw [eW] at dD
  have d0 : spD l = spDof l (spW l) := rfl
  have e0 : k = spEof l (spD l) := hkk.symm
  have eD : spD (l.take k) = spD l := by
    rcases spDof_is l (spW l) with ⟨b1, b2, b3⟩ | ⟨b1, b2⟩
    · rcases spDof_is (l.take k) (spW l) with ⟨_, _, a3⟩ | ⟨a1, _⟩
      · rw [dig_take' l (by omega)] at a3; omega
      · exact absurd ⟨(at_take l (by omega)).trans b1, by rw [dig_take' l (by omega)]; omega⟩ a1
    · rcases spDof_is (l.take k) (spW l) with ⟨a1, a2, _⟩ | ⟨_, a2⟩
      · exfalso
        by_cases hw : spW l < k
        · rw [at_take l hw] at a1
          rw [dig_take' l (by omega)] at a2
          exact b1 ⟨a1, by omega⟩
        · rw [at_take_past l (by omega)] at a1
          exact absurd a1 (by decide)
      · omega
  rw [eD] at dE
  have eE : spE (l.take k) = k := by
    rcases spEof_is l (spD l) with ⟨b1, b2, b3⟩ | ⟨_, b2⟩
    · have g1 := sgn_lo l (spD l + 1)
      rcases spEof_is (l.take k) (spD l) with ⟨_, _, a3⟩ | ⟨a1, _⟩
      · rw [sgn_take l (by omega), dig_take' l (by omega)] at a3; omega
      · exact absurd ⟨by rw [at_take l (by omega)]; exact b1, by rw [sgn_take l (by omega), dig_take' l (by omega)]; omega⟩ a1
    · rcases spEof_is (l.take k) (spD l) with ⟨a1, _⟩ | ⟨_, a2⟩
      · rw [at_take_past l (by omega)] at a1
        exact absurd a1 (by decide)
      · omega
  unfold isDec
  apply decide_eq_true
  unfold len
  rw [if_neg (by rw [eD, eS]; exact hn), eE, len_take hk]
  exact ⟨by omega, rfl⟩
end Fx
end Go.Proofs.YtahdecppngemeaaDoor
