/-
  Plain mathematics of the reference: the least and the greatest character that begins so. No run of the program in this text.
-/
import Derived.Test.YtakafhjnkcilkaaDoorRuP
namespace Go.Proofs.YtakafhjnkcilkaaDoor
namespace Ru

def cls (L a : Int) : Prop := (L = 2 ∧ 192 ≤ a ∧ a < 224) ∨ (L = 3 ∧ 224 ≤ a ∧ a < 240) ∨ (L = 4 ∧ 240 ≤ a ∧ a < 248)
def base (a : Int) : Int := if a < 224 then a - 192 else if a < 240 then a - 224 else a - 240
def spLo (k : Nat) (l : List Int) (x : Int) : Nat → Int
  | 0 => x
  | j + 1 => if j + 1 < k then spLo k l x j * 64 + g l (j + 1) - 128 else spLo k l x j * 64
def spHi (k : Nat) (l : List Int) (x : Int) : Nat → Int
  | 0 => x
  | j + 1 => if j + 1 < k then spHi k l x j * 64 + g l (j + 1) - 128 else spHi k l x j * 64 + 63
def okC (k : Nat) (l : List Int) (i : Nat) : Prop := ∀ j, 1 ≤ j → j ≤ i → j < k → 128 ≤ g l j ∧ g l j ≤ 191
def least (L : Int) : Int := if L = 4 then 65536 else if L = 3 then 2048 else 128
def mx (a b : Int) : Int := if a ≤ b then b else a
def roomLo (L lo : Int) : Int := if 55296 ≤ mx lo (least L) ∧ mx lo (least L) ≤ 57343 then 57344 else mx lo (least L)
def room (L lo hi : Int) : Prop := roomLo L lo ≤ hi ∧ roomLo L lo ≤ 1114111

theorem room_two (lo hi : Int) : room 2 lo hi ↔ (128 ≤ hi ∧ lo ≤ hi ∧ lo ≤ 1114111 ∧ (lo < 55296 ∨ 57343 < lo ∨ 57344 ≤ hi)) := by
  unfold room roomLo mx least
  simp only [Int.reduceEq, if_false]
  repeat' split
  all_goals omega
theorem room_three (lo hi : Int) : room 3 lo hi ↔ (2048 ≤ hi ∧ lo ≤ hi ∧ lo ≤ 1114111 ∧ (lo < 55296 ∨ 57343 < lo ∨ 57344 ≤ hi)) := by
  unfold room roomLo mx least
  simp only [Int.reduceEq, if_false, if_true]
  repeat' split
  all_goals omega
theorem room_four (lo hi : Int) : room 4 lo hi ↔ (65536 ≤ hi ∧ lo ≤ hi ∧ lo ≤ 1114111) := by
  unfold room roomLo mx least
  simp only [if_true]
  repeat' split
  all_goals omega

theorem okC_zero (k : Nat) (l : List Int) : okC k l 0 := fun j h1 h2 => by omega
theorem okC_next {k : Nat} {l : List Int} {i : Nat} (h : okC k l i) (h' : i + 1 < k → 128 ≤ g l (i + 1) ∧ g l (i + 1) ≤ 191) : okC k l (i + 1) := fun j h1 h2 h3 => by
  by_cases e : j = i + 1
  · subst e; exact h' h3
  · exact h j h1 (by omega) h3
theorem okC_three (k : Nat) (l : List Int) (i : Nat) (hi : i ≤ 3) : okC k l i ↔ ((i < 1 ∨ k ≤ 1 ∨ (128 ≤ g l 1 ∧ g l 1 ≤ 191)) ∧ (i < 2 ∨ k ≤ 2 ∨ (128 ≤ g l 2 ∧ g l 2 ≤ 191)) ∧ (i < 3 ∨ k ≤ 3 ∨ (128 ≤ g l 3 ∧ g l 3 ≤ 191))) := by
  constructor
  · intro h
    have h1 := h 1
    have h2 := h 2
    have h3 := h 3
    omega
  · rintro ⟨h1, h2, h3⟩ j j1 j2 j3
    rcases (show j = 1 ∨ j = 2 ∨ j = 3 by omega) with rfl | rfl | rfl
    · omega
    · omega
    · omega

theorem sp_bounds {k : Nat} {l : List Int} {x : Int} (h0 : 0 ≤ x) (h1 : x ≤ 31) : ∀ i, i ≤ 3 → okC k l i → 0 ≤ spLo k l x i ∧ spLo k l x i ≤ spHi k l x i ∧ spHi k l x i ≤ 32 * 64 ^ i - 1
  | 0, _, _ => by unfold spLo spHi; omega
  | i + 1, hi, h => by
    have ih := sp_bounds h0 h1 i (by omega) (fun j a b c => h j a (by omega) c)
    unfold spLo spHi
    have hp : (64 : Int) ^ (i + 1) = 64 ^ i * 64 := by rw [Int.pow_succ]
    rw [hp]
    by_cases hk : i + 1 < k
    · have := h (i + 1) (by omega) (by omega) hk
      rw [if_pos hk, if_pos hk]
      omega
    · rw [if_neg hk, if_neg hk]
      omega
theorem pow_three {i : Nat} (hi : i ≤ 3) : (64 : Int) ^ i ≤ 262144 := by
  rcases (show i = 0 ∨ i = 1 ∨ i = 2 ∨ i = 3 by omega) with rfl | rfl | rfl | rfl <;> decide

theorem mm_one {n a b c d : Int} (h : need a ≠ 0) : 1 ≤ mm n a b c d := by
  unfold mm
  repeat' split
  all_goals omega
theorem mm_two {n a b c d : Int} (h : need a ≠ 0) (hn : 1 < n) : 2 ≤ mm n a b c d ↔ lo2 a ≤ b ∧ b ≤ hi2 a := by
  unfold mm
  repeat' split
  all_goals omega
theorem mm_three {n a b c d : Int} (h : need a = 3 ∨ need a = 4) (hn : 2 < n) : 3 ≤ mm n a b c d ↔ (lo2 a ≤ b ∧ b ≤ hi2 a) ∧ 128 ≤ c ∧ c ≤ 191 := by
  unfold mm
  repeat' split
  all_goals omega
theorem mm_four {n a b c d : Int} (h : need a = 4) (hn : 3 < n) : 4 ≤ mm n a b c d ↔ (lo2 a ≤ b ∧ b ≤ hi2 a) ∧ (128 ≤ c ∧ c ≤ 191) ∧ 128 ≤ d ∧ d ≤ 191 := by
  unfold mm
  repeat' split
  all_goals omega
/-- the bytes' places, by names of their own -/
theorem sp_two (k : Nat) (l : List Int) (x : Int) : spLo k l x 1 = (if 1 < k then x * 64 + g l 1 - 128 else x * 64) ∧ spHi k l x 1 = (if 1 < k then x * 64 + g l 1 - 128 else x * 64 + 63) := ⟨rfl, rfl⟩
theorem sp_three (k : Nat) (l : List Int) (x : Int) : spLo k l x 2 = (if 2 < k then spLo k l x 1 * 64 + g l 2 - 128 else spLo k l x 1 * 64) ∧ spHi k l x 2 = (if 2 < k then spHi k l x 1 * 64 + g l 2 - 128 else spHi k l x 1 * 64 + 63) := ⟨rfl, rfl⟩
theorem sp_four (k : Nat) (l : List Int) (x : Int) : spLo k l x 3 = (if 3 < k then spLo k l x 2 * 64 + g l 3 - 128 else spLo k l x 2 * 64) ∧ spHi k l x 3 = (if 3 < k then spHi k l x 2 * 64 + g l 3 - 128 else spHi k l x 2 * 64 + 63) := ⟨rfl, rfl⟩

theorem bg_two (n k : Nat) (l : List Int) (h1 : 1 ≤ k) (h2 : k ≤ 2) (hn : k ≤ n) :
    (cls 2 (g l 0) ∧ okC k l 1 ∧ room 2 (spLo k l (base (g l 0)) 1) (spHi k l (base (g l 0)) 1)) ↔ (2 = need (g l 0) ∧ (k : Int) ≤ mm n (g l 0) (g l 1) (g l 2) (g l 3)) := by
  rw [okC_three k l 1 (by omega), room_two]
  obtain ⟨s1, s2⟩ := sp_two k l (base (g l 0))
  by_cases hr : 192 ≤ g l 0 ∧ g l 0 < 224
  · have hx : base (g l 0) = g l 0 - 192 := by unfold base; omega
    have e1 : cls 2 (g l 0) := by unfold cls; omega
    rw [s1, s2, hx]
    clear hx s1 s2
    generalize g l 0 = a at *
    generalize g l 1 = b at *
    generalize g l 2 = c at *
    generalize g l 3 = d at *
    by_cases hc : 194 ≤ a
    · have e0 : need a = 2 := by unfold need; omega
      have e2 : lo2 a = 128 := by unfold lo2; omega
      have e3 : hi2 a = 191 := by unfold hi2; omega
      rcases (show k = 1 ∨ k = 2 by omega) with rfl | rfl
      · have hm := mm_one (n := n) (b := b) (c := c) (d := d) (show need a ≠ 0 by omega)
        simp only [e1, true_and, false_or, if_false, Nat.lt_irrefl]
        omega
      · have hm := mm_two (n := n) (b := b) (c := c) (d := d) (show need a ≠ 0 by omega) (by omega)
        simp only [e1, true_and, false_or, Nat.reduceLT, if_true]
        omega
    · have e0 : need a = 0 := by unfold need; omega
      rcases (show k = 1 ∨ k = 2 by omega) with rfl | rfl
      · simp only [e1, true_and, false_or, if_false, Nat.lt_irrefl]
        omega
      · simp only [e1, true_and, false_or, Nat.reduceLT, if_true]
        omega
  · constructor
    · rintro ⟨c1, -, -⟩
      unfold cls at c1
      omega
    · rintro ⟨c1, -⟩
      unfold need at c1
      omega

theorem bg_three (n k : Nat) (l : List Int) (h1 : 1 ≤ k) (h2 : k ≤ 3) (hn : k ≤ n) :
    (cls 3 (g l 0) ∧ okC k l 2 ∧ room 3 (spLo k l (base (g l 0)) 2) (spHi k l (base (g l 0)) 2)) ↔ (3 = need (g l 0) ∧ (k : Int) ≤ mm n (g l 0) (g l 1) (g l 2) (g l 3)) := by
  rw [okC_three k l 2 (by omega), room_three]
  obtain ⟨s1, s2⟩ := sp_two k l (base (g l 0))
  obtain ⟨s3, s4⟩ := sp_three k l (base (g l 0))
  by_cases hr : 224 ≤ g l 0 ∧ g l 0 < 240
  · have hx : base (g l 0) = g l 0 - 224 := by unfold base; omega
    have e1 : cls 3 (g l 0) := by unfold cls; omega
    rw [s3, s4, s1, s2, hx]
    clear hx s1 s2 s3 s4
    generalize g l 0 = a at *
    generalize g l 1 = b at *
    generalize g l 2 = c at *
    generalize g l 3 = d at *
    have e0 : need a = 3 := by unfold need; omega
    have e2 : (a = 224 ∧ lo2 a = 160) ∨ (a ≠ 224 ∧ lo2 a = 128) := by unfold lo2; omega
    have e3 : (a = 237 ∧ hi2 a = 159) ∨ (a ≠ 237 ∧ hi2 a = 191) := by unfold hi2; omega
    rcases (show k = 1 ∨ k = 2 ∨ k = 3 by omega) with rfl | rfl | rfl
    · have hm := mm_one (n := n) (b := b) (c := c) (d := d) (show need a ≠ 0 by omega)
      simp only [e1, true_and, false_or, if_false, Nat.lt_irrefl, Nat.reduceLT]
      omega
    · have hm := mm_two (n := n) (b := b) (c := c) (d := d) (show need a ≠ 0 by omega) (by omega)
      simp only [e1, true_and, false_or, Nat.reduceLT, if_true, if_false, Nat.lt_irrefl]
      omega
    · have hm := mm_three (n := n) (b := b) (c := c) (d := d) (Or.inl e0) (by omega)
      simp only [e1, true_and, false_or, Nat.reduceLT, if_true]
      omega
  · constructor
    · rintro ⟨c1, -, -⟩
      unfold cls at c1
      omega
    · rintro ⟨c1, -⟩
      unfold need at c1
      omega

theorem bg_four (n k : Nat) (l : List Int) (h1 : 1 ≤ k) (h2 : k ≤ 4) (hn : k ≤ n) :
    (cls 4 (g l 0) ∧ okC k l 3 ∧ room 4 (spLo k l (base (g l 0)) 3) (spHi k l (base (g l 0)) 3)) ↔ (4 = need (g l 0) ∧ (k : Int) ≤ mm n (g l 0) (g l 1) (g l 2) (g l 3)) := by
  rw [okC_three k l 3 (by omega), room_four]
  obtain ⟨s1, s2⟩ := sp_two k l (base (g l 0))
  obtain ⟨s3, s4⟩ := sp_three k l (base (g l 0))
  obtain ⟨s5, s6⟩ := sp_four k l (base (g l 0))
  by_cases hr : 240 ≤ g l 0 ∧ g l 0 < 248
  · have hx : base (g l 0) = g l 0 - 240 := by unfold base; omega
    have e1 : cls 4 (g l 0) := by unfold cls; omega
    rw [s5, s6, s3, s4, s1, s2, hx]
    clear hx s1 s2 s3 s4 s5 s6
    generalize g l 0 = a at *
    generalize g l 1 = b at *
    generalize g l 2 = c at *
    generalize g l 3 = d at *
    by_cases hc : a < 245
    · have e0 : need a = 4 := by unfold need; omega
      have e2 : (a = 240 ∧ lo2 a = 144) ∨ (a ≠ 240 ∧ lo2 a = 128) := by unfold lo2; omega
      have e3 : (a = 244 ∧ hi2 a = 143) ∨ (a ≠ 244 ∧ hi2 a = 191) := by unfold hi2; omega
      rcases (show k = 1 ∨ k = 2 ∨ k = 3 ∨ k = 4 by omega) with rfl | rfl | rfl | rfl
      · have hm := mm_one (n := n) (b := b) (c := c) (d := d) (show need a ≠ 0 by omega)
        simp only [e1, true_and, false_or, if_false, Nat.lt_irrefl, Nat.reduceLT]
        omega
      · have hm := mm_two (n := n) (b := b) (c := c) (d := d) (show need a ≠ 0 by omega) (by omega)
        simp only [e1, true_and, false_or, Nat.reduceLT, if_true, if_false, Nat.lt_irrefl]
        omega
      · have hm := mm_three (n := n) (b := b) (c := c) (d := d) (Or.inr e0) (by omega)
        simp only [e1, true_and, false_or, Nat.reduceLT, if_true, if_false, Nat.lt_irrefl]
        omega
      · have hm := mm_four (n := n) (b := b) (c := c) (d := d) e0 (by omega)
        simp only [e1, true_and, false_or, Nat.reduceLT, if_true]
        omega
    · have e0 : need a = 0 := by unfold need; omega
      rcases (show k = 1 ∨ k = 2 ∨ k = 3 ∨ k = 4 by omega) with rfl | rfl | rfl | rfl
      all_goals
        simp only [e1, true_and, false_or, if_false, if_true, Nat.lt_irrefl, Nat.reduceLT]
        omega
  · constructor
    · rintro ⟨c1, -, -⟩
      unfold cls at c1
      omega
    · rintro ⟨c1, -⟩
      unfold need at c1
      omega
end Ru
end Go.Proofs.YtakafhjnkcilkaaDoor
