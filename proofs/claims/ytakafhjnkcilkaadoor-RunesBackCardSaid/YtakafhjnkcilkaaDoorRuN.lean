/-
  Plain mathematics of bytes as characters: lists of bytes, what is written is read, parts are read one behind the other. No run of the program in this text.
-/
import Derived.Test.YtakafhjnkcilkaaDoorRuM
import Derived.Lib.RuneBytes
namespace Go.Proofs.YtakafhjnkcilkaaDoor
namespace Ru

def g (l : List Int) (i : Nat) : Int := l.getD i 0
def chL (l : List Int) : Int := ch l.length (g l 0) (g l 1) (g l 2) (g l 3)
def wdL (l : List Int) : Nat := (wd l.length (g l 0) (g l 1) (g l 2) (g l 3)).toNat
def plain (c : Int) : Int := if c = 13 ∨ c = 12 then 10 else if c = 0 then 65533 else c
/-- how many bytes are gone past -/
def st (l : List Int) : Nat := if chL l = 13 ∧ wdL l < l.length ∧ g l (wdL l) = 10 then wdL l + 1 else wdL l
def rdF : Nat → List Int → List Int
  | 0, _ => []
  | f + 1, l => if l = [] then [] else plain (chL l) :: rdF f (l.drop (st l))
/-- the characters of bytes -/
def rd (l : List Int) : List Int := rdF l.length l
/-- is it a character? -/
def Is (c : Int) : Prop := 0 ≤ c ∧ c ≤ 1114111 ∧ (c < 55296 ∨ 57343 < c)

theorem len_pos {l : List Int} (h : l ≠ []) : 1 ≤ l.length := by
  cases l with
  | nil => exact absurd rfl h
  | cons => simp
theorem wdL_le {l : List Int} (h : l ≠ []) : 1 ≤ wdL l ∧ wdL l ≤ 4 ∧ wdL l ≤ l.length := by
  have h1 := len_pos h
  have := wd_le l.length (g l 0) (g l 1) (g l 2) (g l 3) (by omega)
  unfold wdL; omega
theorem wdL_int {l : List Int} (h : l ≠ []) : (wdL l : Int) = wd l.length (g l 0) (g l 1) (g l 2) (g l 3) := by
  have h1 := len_pos h
  have := wd_le l.length (g l 0) (g l 1) (g l 2) (g l 3) (by omega)
  unfold wdL; omega
theorem st_le {l : List Int} (h : l ≠ []) : 1 ≤ st l ∧ st l ≤ l.length := by
  have := wdL_le h
  unfold st; split <;> omega
theorem rdF_nil (f : Nat) : rdF f [] = [] := by cases f <;> simp [rdF]
theorem rdF_more : ∀ (f : Nat) (l : List Int), l.length ≤ f → rdF f l = rd l
  | 0, l, h => by
    have : l = [] := List.eq_nil_of_length_eq_zero (by omega)
    subst this; rfl
  | f + 1, l, h => by
    by_cases hl : l = []
    · subst hl; simp [rdF_nil, rd]
    · have h1 := len_pos hl
      have hs := st_le hl
      obtain ⟨m, hm⟩ : ∃ m, l.length = m + 1 := ⟨l.length - 1, by omega⟩
      have hd : (l.drop (st l)).length = l.length - st l := by simp
      unfold rd
      rw [hm]
      unfold rdF
      rw [if_neg hl, if_neg hl, rdF_more f _ (by omega), rdF_more m _ (by omega)]
termination_by f => f
theorem rd_nil : rd [] = [] := rfl
theorem rd_cons {l : List Int} (h : l ≠ []) : rd l = plain (chL l) :: rd (l.drop (st l)) := by
  have h1 := len_pos h
  have hs := st_le h
  obtain ⟨m, hm⟩ : ∃ m, l.length = m + 1 := ⟨l.length - 1, by omega⟩
  have hd : (l.drop (st l)).length = l.length - st l := by simp
  rw [← rdF_more (m + 1) l (by omega)]
  unfold rdF
  rw [if_neg h, rdF_more m _ (by omega)]

/-! ### what is told is a character -/
theorem val_is {n a b c d : Int} (ha : 128 ≤ a) (h0 : need a ≠ 0) (hm : mm n a b c d = need a) : 128 ≤ val a b c d ∧ Is (val a b c d) := by
  have hc := need_case a
  unfold Is
  rcases hc with hc | hc | hc | hc
  · exact absurd hc h0
  all_goals
    unfold mm at hm
    unfold val
    rw [hc] at hm ⊢
    simp only [Int.reduceEq, if_false, if_true] at hm ⊢
    unfold need at hc
    unfold lo2 hi2 at hm
    repeat' split at hm
    all_goals first | omega | skip
theorem ch_is {n a b c d : Int} (ha : 0 ≤ a) : Is (ch n a b c d) := by
  unfold ch
  split
  · unfold Is; omega
  · split
    · rename_i h1 h2
      exact (val_is (by omega) h2.1 h2.2).2
    · unfold Is; omega
theorem plain_is {c : Int} (h : Is c) : Is (plain c) ∧ plain c ≠ 0 ∧ plain c ≠ 12 ∧ plain c ≠ 13 := by
  unfold plain Is at *
  repeat' split
  all_goals omega
/-- only the byte 13 is 13 -/
theorem wd_13 {n a b c d : Int} (h : ch n a b c d = 13) : wd n a b c d = 1 := by
  unfold ch at h
  unfold wd
  by_cases h1 : a < 128
  · rw [if_pos h1]
  · rw [if_neg h1] at h
    split at h
    · rename_i h2
      have := (val_is (by omega) h2.1 h2.2).1
      omega
    · omega
def By (l : List Int) : Prop := ∀ c ∈ l, 0 ≤ c ∧ c < 256
theorem By.drop {l : List Int} (h : By l) (k : Nat) : By (l.drop k) := fun c hc => h c (List.mem_of_mem_drop hc)
theorem By.at_ {l : List Int} (h : By l) (i : Nat) : 0 ≤ g l i ∧ g l i < 256 := by
  unfold g
  by_cases hi : i < l.length
  · rw [List.getD_eq_getElem?_getD, List.getElem?_eq_getElem hi]
    exact h _ (List.getElem_mem hi)
  · rw [List.getD_eq_getElem?_getD, List.getElem?_eq_none (by omega)]
    exact ⟨by simp, by simp⟩
theorem chL_is {l : List Int} (h : By l) : Is (chL l) := ch_is (h.at_ 0).1
theorem rd_is : ∀ (f : Nat) (l : List Int), By l → ∀ c ∈ rdF f l, Is c ∧ c ≠ 0 ∧ c ≠ 12 ∧ c ≠ 13
  | 0, _, _ => by intro c hc; simp [rdF] at hc
  | f + 1, l, h => by
    intro c hc
    unfold rdF at hc
    split at hc
    · simp at hc
    · rcases List.mem_cons.1 hc with rfl | hc
      · exact plain_is (chL_is h)
      · exact rd_is f _ (h.drop _) c hc
theorem rd_len : ∀ (f : Nat) (l : List Int), (rdF f l).length ≤ l.length
  | 0, _ => by simp [rdF]
  | f + 1, l => by
    unfold rdF
    split
    · simp
    · rename_i hl
      have h := rd_len f (l.drop (st l))
      have hs := st_le hl
      rw [List.length_drop] at h
      rw [List.length_cons]
      omega
end Ru
end Go.Proofs.YtakafhjnkcilkaaDoor
