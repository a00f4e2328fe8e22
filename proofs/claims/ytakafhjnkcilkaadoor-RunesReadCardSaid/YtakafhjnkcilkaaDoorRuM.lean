/-
  Plain mathematics of bytes as characters: the first character, told by DecodeRune and FullRune. No run of the program in this text.
-/
import Derived.Lib.DecodeNEq
namespace Go.Proofs.YtakafhjnkcilkaaDoor
namespace Ru
open Go.Lib

/-- how many bytes a character has that begins so; 0: none does -/
def need (a : Int) : Int := if a < 194 then 0 else if a < 224 then 2 else if a < 240 then 3 else if a < 245 then 4 else 0
def lo2 (a : Int) : Int := if a = 224 then 160 else if a = 240 then 144 else 128
def hi2 (a : Int) : Int := if a = 237 then 159 else if a = 244 then 143 else 191

/-- how many of the first bytes begin one character, of a first byte from 128 on -/
def mm (n : Int) (a b c d : Int) : Int :=
  if need a = 0 then 0
  else if ¬ (1 < n ∧ lo2 a ≤ b ∧ b ≤ hi2 a) then 1
  else if need a = 2 then 2
  else if ¬ (2 < n ∧ 128 ≤ c ∧ c ≤ 191) then 2
  else if need a = 3 then 3
  else if ¬ (3 < n ∧ 128 ≤ d ∧ d ≤ 191) then 3
  else 4
def val (a b c d : Int) : Int :=
  if need a = 2 then a % 32 * 64 + b % 64
  else if need a = 3 then a % 16 * 4096 + b % 64 * 64 + c % 64
  else a % 8 * 262144 + b % 64 * 4096 + c % 64 * 64 + d % 64
/-- the first character -/
def ch (n : Int) (a b c d : Int) : Int :=
  if a < 128 then a else if need a ≠ 0 ∧ mm n a b c d = need a then val a b c d else 65533
/-- how many bytes it takes -/
def wd (n : Int) (a b c d : Int) : Int :=
  if a < 128 then 1 else if mm n a b c d = 0 then 1 else mm n a b c d

theorem need_case (a : Int) : need a = 0 ∨ need a = 2 ∨ need a = 3 ∨ need a = 4 := by unfold need; omega
theorem mm_le (n a b c d : Int) (hn : 1 ≤ n) : 0 ≤ mm n a b c d ∧ mm n a b c d ≤ need a ∧ mm n a b c d ≤ n := by
  have h := need_case a
  unfold mm
  repeat' split
  all_goals omega
theorem wd_le (n a b c d : Int) (hn : 1 ≤ n) : 1 ≤ wd n a b c d ∧ wd n a b c d ≤ 4 ∧ wd n a b c d ≤ n := by
  have h := mm_le n a b c d hn
  have g := need_case a
  unfold wd
  repeat' split
  all_goals omega

/-- utf8.FullRune of the first m bytes, m from 1 on -/
def full (m : Int) (a b c : Int) : Bool :=
  decide ((a < 128 ∨ need a ≤ m) ∨ (1 < m ∧ (b < lo2 a ∨ hi2 a < b)) ∨ (2 < m ∧ (c < 128 ∨ 191 < c)))

/-- the library's table of first bytes -/
theorem firstT_ascii {a : Nat} (h : a < 128) : firstT a = 240 := by unfold firstT; rw [if_pos h]
theorem firstT_none {a : Nat} (h : ¬ a < 128) (hn : need (a : Int) = 0) : firstT a = 241 := by
  unfold need at hn
  unfold firstT
  repeat' split
  all_goals first | rfl | (exfalso; revert hn; repeat' split) <;> omega
theorem firstT_some {a : Nat} (hn : need (a : Int) ≠ 0) : firstT a < 240 ∧ ((firstT a % 8 : Nat) : Int) = need (a : Int) ∧ ((accLo (firstT a / 16) : Nat) : Int) = lo2 (a : Int) ∧ ((accHi (firstT a / 16) : Nat) : Int) = hi2 (a : Int) := by
  have hlt : 194 ≤ a ∧ a < 245 := by unfold need at hn; revert hn; repeat' split <;> omega
  have h : (194 ≤ a ∧ a < 224) ∨ a = 224 ∨ ((225 ≤ a ∧ a < 237) ∨ (238 ≤ a ∧ a < 240)) ∨ a = 237 ∨ a = 240 ∨ (241 ≤ a ∧ a < 244) ∨ a = 244 := by omega
  rcases h with h | h | h | h | h | h | h
  · rw [firstT_C2 h, show accLo (2 / 16) = 128 from rfl, show accHi (2 / 16) = 191 from rfl]; exact ⟨by decide, by unfold need; omega, by unfold lo2; omega, by unfold hi2; omega⟩
  · rw [firstT_E0 h, show accLo (19 / 16) = 160 from rfl, show accHi (19 / 16) = 191 from rfl]; exact ⟨by decide, by unfold need; omega, by unfold lo2; omega, by unfold hi2; omega⟩
  · rw [firstT_E1 h, show accLo (3 / 16) = 128 from rfl, show accHi (3 / 16) = 191 from rfl]; exact ⟨by decide, by unfold need; omega, by unfold lo2; omega, by unfold hi2; omega⟩
  · rw [firstT_ED h, show accLo (35 / 16) = 128 from rfl, show accHi (35 / 16) = 159 from rfl]; exact ⟨by decide, by unfold need; omega, by unfold lo2; omega, by unfold hi2; omega⟩
  · rw [firstT_F0 h, show accLo (52 / 16) = 144 from rfl, show accHi (52 / 16) = 191 from rfl]; exact ⟨by decide, by unfold need; omega, by unfold lo2; omega, by unfold hi2; omega⟩
  · rw [firstT_F1 h, show accLo (4 / 16) = 128 from rfl, show accHi (4 / 16) = 191 from rfl]; exact ⟨by decide, by unfold need; omega, by unfold lo2; omega, by unfold hi2; omega⟩
  · rw [firstT_F4 h, show accLo (68 / 16) = 128 from rfl, show accHi (68 / 16) = 143 from rfl]; exact ⟨by decide, by unfold need; omega, by unfold lo2; omega, by unfold hi2; omega⟩

/-- decodeRuneSlow's road is the first character, where there is a whole one -/
theorem slow_is (n a b c d s lo hi : Nat) (hs : (s : Int) = need (a : Int)) (h0 : need (a : Int) ≠ 0) (hlo : (lo : Int) = lo2 (a : Int)) (hhi : (hi : Int) = hi2 (a : Int)) :
    (mm n a b c d = need a → (((slowN n a b c d s lo hi).1 : Nat) : Int) = val a b c d ∧ (((slowN n a b c d s lo hi).2 : Nat) : Int) = need a) ∧ (mm n a b c d ≠ need a → slowN n a b c d s lo hi = (65533, 1)) := by
  have hc := need_case (a : Int)
  unfold mm val slowN
  rw [← hlo, ← hhi]
  rcases hc with hc | hc | hc | hc
  · exact absurd hc h0
  · obtain rfl : s = 2 := by omega
    simp only [hc, Int.reduceEq, Nat.reduceLeDiff, if_true, if_false]
    clear hs h0 hc hlo hhi
    constructor
    · intro hm
      repeat' split at hm
      all_goals try omega
      repeat' split
      all_goals first | (exfalso; omega) | (simp only; omega)
    · intro hm
      repeat' split at hm
      all_goals try omega
      all_goals
        repeat' split
        all_goals first | rfl | (exfalso; omega)
  · obtain rfl : s = 3 := by omega
    simp only [hc, Int.reduceEq, Nat.reduceLeDiff, if_true, if_false]
    clear hs h0 hc hlo hhi
    constructor
    · intro hm
      repeat' split at hm
      all_goals try omega
      repeat' split
      all_goals first | (exfalso; omega) | (simp only; omega)
    · intro hm
      repeat' split at hm
      all_goals try omega
      all_goals
        repeat' split
        all_goals first | rfl | (exfalso; omega)
  · obtain rfl : s = 4 := by omega
    simp only [hc, Int.reduceEq, Nat.reduceLeDiff, if_false]
    clear hs h0 hc hlo hhi
    constructor
    · intro hm
      repeat' split at hm
      all_goals try omega
      repeat' split
      all_goals first | (exfalso; omega) | (simp only; omega)
    · intro hm
      repeat' split at hm
      all_goals try omega
      all_goals
        repeat' split
        all_goals first | rfl | (exfalso; omega)

/-- what DecodeRune tells where it finds a character -/
theorem decode_is (n a b c d : Nat) (hn : 1 ≤ n) (ha : a < 256) (hb : b < 256) (hc : c < 256) (hd : d < 256)
    (h : ¬ ((decodeN n a b c d).1 = 65533 ∧ (decodeN n a b c d).2 = 1)) :
    (((decodeN n a b c d).1 : Nat) : Int) = ch n a b c d ∧ (((decodeN n a b c d).2 : Nat) : Int) = wd n a b c d := by
  by_cases h1 : a < 128
  · rw [ascii_eq n a b c d (firstT_ascii h1)]
    unfold ch wd
    rw [if_pos (by omega), if_pos (by omega)]
    exact ⟨rfl, rfl⟩
  · by_cases h2 : need (a : Int) = 0
    · rw [bad_eq n a b c d ha (firstT_none h1 h2)] at h
      exact absurd ⟨rfl, rfl⟩ h
    · obtain ⟨f1, f2, f3, f4⟩ := firstT_some h2
      rw [← slow_eq n a b c d hn hb hc hd f1] at h ⊢
      obtain ⟨g1, g2⟩ := slow_is n a b c d _ _ _ f2 h2 f3 f4
      by_cases hm : mm n a b c d = need a
      · unfold ch wd
        rw [if_neg (by omega), if_pos ⟨h2, hm⟩, if_neg (by omega), if_neg (by omega), hm]
        exact g1 hm
      · rw [g2 hm] at h
        exact absurd ⟨rfl, rfl⟩ h

/-- where DecodeRune finds none, FullRune tells how many bytes the longest beginning has -/
theorem beginning_is (n k a b c d : Nat) (hn : 1 ≤ n) (ha : a < 256) (hb : b < 256) (hc : c < 256) (hd : d < 256)
    (h : (decodeN n a b c d).1 = 65533 ∧ (decodeN n a b c d).2 = 1) (hk : 1 ≤ k) (hkn : k ≤ n) (h0 : k = 1 ∨ full k a b c = false) (h1 : k = n ∨ full (k + 1 : Int) a b c = true) :
    (65533 : Int) = ch n a b c d ∧ (k : Int) = wd n a b c d := by
  by_cases g1 : a < 128
  · rw [ascii_eq n a b c d (firstT_ascii g1)] at h
    have := h.1
    simp only at this
    omega
  · by_cases g2 : need (a : Int) = 0
    · have hk1 : k = 1 := by
        rcases h0 with h0 | h0
        · exact h0
        · unfold full at h0
          have := of_decide_eq_false h0
          omega
      unfold ch wd
      rw [if_neg (by omega), if_neg (by omega), if_neg (by omega)]
      have : mm n a b c d = 0 := by unfold mm; rw [if_pos g2]
      rw [if_pos this]
      omega
    · obtain ⟨f1, f2, f3, f4⟩ := firstT_some g2
      rw [← slow_eq n a b c d hn hb hc hd f1] at h
      obtain ⟨e1, e2⟩ := slow_is n a b c d _ _ _ f2 g2 f3 f4
      have hm : mm n a b c d ≠ need a := by
        intro hm
        have := e1 hm
        have hcase := need_case (a : Int)
        omega
      unfold ch wd
      rw [if_neg (by omega), if_neg (by omega), if_neg (by omega)]
      clear e1 e2 h f1 f2 f3 f4
      have hf : ∀ m : Int, full m a b c = true ↔ (((a : Int) < 128 ∨ need a ≤ m) ∨ (1 < m ∧ ((b : Int) < lo2 a ∨ hi2 a < b)) ∨ (2 < m ∧ ((c : Int) < 128 ∨ 191 < (c : Int)))) := fun m => by unfold full; exact decide_eq_true_iff
      have h0' : k = 1 ∨ ¬ (((a : Int) < 128 ∨ need a ≤ k) ∨ (1 < (k : Int) ∧ ((b : Int) < lo2 a ∨ hi2 a < b)) ∨ (2 < (k : Int) ∧ ((c : Int) < 128 ∨ 191 < (c : Int)))) := h0.imp_right fun h => by rw [← hf]; simp [h]
      rw [hf] at h1
      have hcase := need_case (a : Int)
      have hmk : mm n a b c d = k := by
        revert hm
        unfold mm
        generalize lo2 (a : Int) = lo at *
        generalize hi2 (a : Int) = hi at *
        generalize need (a : Int) = s at *
        clear hf h0
        intro hm
        repeat' split at hm
        all_goals repeat' split
        all_goals omega
      rw [if_neg (by omega)]
      omega
end Ru
end Go.Proofs.YtakafhjnkcilkaaDoor
