/-
  What all texts of a seat share: endings, the rows of the plain types, old cells behind a call that makes memory.
-/
import Derived.Test.YtgcmjkimiakibaaGreatDoorRows
import Derived.WalkKit
import Derived.Below
import Derived.Lib.MinMax
import Derived.Lib.DecodeNEq
import Derived.Lib.RuneBytes
import Derived.WalkSpells
import Derived.WalkLawsBesides
import Derived.Lib.Hide
namespace Go.Proofs.YtgcmjkimiakibaaGreatDoor
open Go.RowKit

theorem ret_int {k : IntKind} {a b : Int} (h : a = b) : Ending.returned (.int k a) = .returned (.int k b) := by rw [h]
theorem ret_bool {a b : Bool} (h : a = b) : Ending.returned (.bool a) = .returned (.bool b) := by rw [h]
theorem ret_two {k1 k2 : IntKind} {a b c d : Int} (h1 : a = c) (h2 : b = d) : Ending.returned (.tuple #[.int k1 a, .int k2 b]) = .returned (.tuple #[.int k1 c, .int k2 d]) := by rw [h1, h2]
theorem Tryz.info5 : (Tryz.prog.info? 5).map (fun i => (i.zero, i.size, i.bytes)) = some (some (.int .u8 0), 1, 1) := by kernel_rfl
theorem Tryz.info3 : (Tryz.prog.info? 3).map (fun i => (i.zero, i.size, i.bytes)) = some (some (.int .i64 0), 1, 8) := by kernel_rfl
theorem bcell {W w1 : World} (hb : Below W.heap.size W w1) : (∀ b o, b < W.heap.size → w1.cell? ⟨b, o, none⟩ = W.cell? ⟨b, o, none⟩) ∧ (∀ b o, b < W.heap.size → w1.frozen? ⟨b, o, none⟩ = W.frozen? ⟨b, o, none⟩) :=
  ⟨fun b o h => hb.cell (p := ⟨b, o, none⟩) h, fun b o h => hb.frozen (p := ⟨b, o, none⟩) h⟩
end Go.Proofs.YtgcmjkimiakibaaGreatDoor

/-
  Plain mathematics of bytes as characters: the first character, told by DecodeRune and FullRune. No run of the program in this text.
-/
namespace Go.Proofs.YtgcmjkimiakibaaGreatDoor
namespace Ru
open Go.Lib

/-- how many bytes a character has that begins so; 0: none does -/
def need (a : Int) : Int := if a < 194 then 0 else if a < 224 then 2 else if a < 240 then 3 else if a < 245 then 4 else 0
def lo2 (a : Int) : Int := if a = 224 then 160 else if a = 240 then 144 else 128
def hi2 (a : Int) : Int := if a = 237 then 159 else if a = 244 then 143 else 191

/-- how many of the first bytes begin one character, of a first byte from 128 on -/
def mm (n : Int) (a b c d : Int) : Int :=
  if need a = 0 then 0
  else if ¬ (1 < n ∧ lo2 a ≤ b ∧ b ≤ hi2 a) then 1
  else if need a = 2 then 2
  else if ¬ (2 < n ∧ 128 ≤ c ∧ c ≤ 191) then 2
  else if need a = 3 then 3
  else if ¬ (3 < n ∧ 128 ≤ d ∧ d ≤ 191) then 3
  else 4
def val (a b c d : Int) : Int :=
  if need a = 2 then a % 32 * 64 + b % 64
  else if need a = 3 then a % 16 * 4096 + b % 64 * 64 + c % 64
  else a % 8 * 262144 + b % 64 * 4096 + c % 64 * 64 + d % 64
/-- the first character -/
def ch (n : Int) (a b c d : Int) : Int :=
  if a < 128 then a else if need a ≠ 0 ∧ mm n a b c d = need a then val a b c d else 65533
/-- how many bytes it takes -/
def wd (n : Int) (a b c d : Int) : Int :=
  if a < 128 then 1 else if mm n a b c d = 0 then 1 else mm n a b c d

theorem need_case (a : Int) : need a = 0 ∨ need a = 2 ∨ need a = 3 ∨ need a = 4 := by unfold need; omega
theorem mm_le (n a b c d : Int) (hn : 1 ≤ n) : 0 ≤ mm n a b c d ∧ mm n a b c d ≤ need a ∧ mm n a b c d ≤ n := by
  have h := need_case a
  unfold mm
  repeat' split
  all_goals omega
theorem wd_le (n a b c d : Int) (hn : 1 ≤ n) : 1 ≤ wd n a b c d ∧ wd n a b c d ≤ 4 ∧ wd n a b c d ≤ n := by
  have h := mm_le n a b c d hn
  have g := need_case a
  unfold wd
  repeat' split
  all_goals omega

/-- utf8.FullRune of the first m bytes, m from 1 on -/
def full (m : Int) (a b c : Int) : Bool :=
  decide ((a < 128 ∨ need a ≤ m) ∨ (1 < m ∧ (b < lo2 a ∨ hi2 a < b)) ∨ (2 < m ∧ (c < 128 ∨ 191 < c)))

/-- the library's table of first bytes -/
theorem firstT_ascii {a : Nat} (h : a < 128) : firstT a = 240 := by unfold firstT; rw [if_pos h]
theorem firstT_none {a : Nat} (h : ¬ a < 128) (hn : need (a : Int) = 0) : firstT a = 241 := by
  unfold need at hn
  unfold firstT
  repeat' split
  all_goals first | rfl | (exfalso; revert hn; repeat' split) <;> omega
theorem firstT_some {a : Nat} (hn : need (a : Int) ≠ 0) : firstT a < 240 ∧ ((firstT a % 8 : Nat) : Int) = need (a : Int) ∧ ((accLo (firstT a / 16) : Nat) : Int) = lo2 (a : Int) ∧ ((accHi (firstT a / 16) : Nat) : Int) = hi2 (a : Int) := by
  have hlt : 194 ≤ a ∧ a < 245 := by unfold need at hn; revert hn; repeat' split <;> omega
  have h : (194 ≤ a ∧ a < 224) ∨ a = 224 ∨ ((225 ≤ a ∧ a < 237) ∨ (238 ≤ a ∧ a < 240)) ∨ a = 237 ∨ a = 240 ∨ (241 ≤ a ∧ a < 244) ∨ a = 244 := by omega
  rcases h with h | h | h | h | h | h | h
  · rw [firstT_C2 h, show accLo (2 / 16) = 128 from rfl, show accHi (2 / 16) = 191 from rfl]; exact ⟨by decide, by unfold need; omega, by unfold lo2; omega, by unfold hi2; omega⟩
  · rw [firstT_E0 h, show accLo (19 / 16) = 160 from rfl, show accHi (19 / 16) = 191 from rfl]; exact ⟨by decide, by unfold need; omega, by unfold lo2; omega, by unfold hi2; omega⟩
  · rw [firstT_E1 h, show accLo (3 / 16) = 128 from rfl, show accHi (3 / 16) = 191 from rfl]; exact ⟨by decide, by unfold need; omega, by unfold lo2; omega, by unfold hi2; omega⟩
  · rw [firstT_ED h, show accLo (35 / 16) = 128 from rfl, show accHi (35 / 16) = 159 from rfl]; exact ⟨by decide, by unfold need; omega, by unfold lo2; omega, by unfold hi2; omega⟩
  · rw [firstT_F0 h, show accLo (52 / 16) = 144 from rfl, show accHi (52 / 16) = 191 from rfl]; exact ⟨by decide, by unfold need; omega, by unfold lo2; omega, by unfold hi2; omega⟩
  · rw [firstT_F1 h, show accLo (4 / 16) = 128 from rfl, show accHi (4 / 16) = 191 from rfl]; exact ⟨by decide, by unfold need; omega, by unfold lo2; omega, by unfold hi2; omega⟩
  · rw [firstT_F4 h, show accLo (68 / 16) = 128 from rfl, show accHi (68 / 16) = 143 from rfl]; exact ⟨by decide, by unfold need; omega, by unfold lo2; omega, by unfold hi2; omega⟩

/-- decodeRuneSlow's road is the first character, where there is a whole one -/
theorem slow_is (n a b c d s lo hi : Nat) (hs : (s : Int) = need (a : Int)) (h0 : need (a : Int) ≠ 0) (hlo : (lo : Int) = lo2 (a : Int)) (hhi : (hi : Int) = hi2 (a : Int)) :
    (mm n a b c d = need a → (((slowN n a b c d s lo hi).1 : Nat) : Int) = val a b c d ∧ (((slowN n a b c d s lo hi).2 : Nat) : Int) = need a) ∧ (mm n a b c d ≠ need a → slowN n a b c d s lo hi = (65533, 1)) := by
  have hc := need_case (a : Int)
  unfold mm val slowN
  rw [← hlo, ← hhi]
  rcases hc with hc | hc | hc | hc
  · exact absurd hc h0
  · obtain rfl : s = 2 := by omega
    simp only [hc, Int.reduceEq, Nat.reduceLeDiff, if_true, if_false]
    clear hs h0 hc hlo hhi
    constructor
    · intro hm
      repeat' split at hm
      all_goals try omega
      repeat' split
      all_goals first | (exfalso; omega) | (simp only; omega)
    · intro hm
      repeat' split at hm
      all_goals try omega
      all_goals
        repeat' split
        all_goals first | rfl | (exfalso; omega)
  · obtain rfl : s = 3 := by omega
    simp only [hc, Int.reduceEq, Nat.reduceLeDiff, if_true, if_false]
    clear hs h0 hc hlo hhi
    constructor
    · intro hm
      repeat' split at hm
      all_goals try omega
      repeat' split
      all_goals first | (exfalso; omega) | (simp only; omega)
    · intro hm
      repeat' split at hm
      all_goals try omega
      all_goals
        repeat' split
        all_goals first | rfl | (exfalso; omega)
  · obtain rfl : s = 4 := by omega
    simp only [hc, Int.reduceEq, Nat.reduceLeDiff, if_false]
    clear hs h0 hc hlo hhi
    constructor
    · intro hm
      repeat' split at hm
      all_goals try omega
      repeat' split
      all_goals first | (exfalso; omega) | (simp only; omega)
    · intro hm
      repeat' split at hm
      all_goals try omega
      all_goals
        repeat' split
        all_goals first | rfl | (exfalso; omega)

/-- what DecodeRune tells where it finds a character -/
theorem decode_is (n a b c d : Nat) (hn : 1 ≤ n) (ha : a < 256) (hb : b < 256) (hc : c < 256) (hd : d < 256)
    (h : ¬ ((decodeN n a b c d).1 = 65533 ∧ (decodeN n a b c d).2 = 1)) :
    (((decodeN n a b c d).1 : Nat) : Int) = ch n a b c d ∧ (((decodeN n a b c d).2 : Nat) : Int) = wd n a b c d := by
  by_cases h1 : a < 128
  · rw [ascii_eq n a b c d (firstT_ascii h1)]
    unfold ch wd
    rw [if_pos (by omega), if_pos (by omega)]
    exact ⟨rfl, rfl⟩
  · by_cases h2 : need (a : Int) = 0
    · rw [bad_eq n a b c d ha (firstT_none h1 h2)] at h
      exact absurd ⟨rfl, rfl⟩ h
    · obtain ⟨f1, f2, f3, f4⟩ := firstT_some h2
      rw [← slow_eq n a b c d hn hb hc hd f1] at h ⊢
      obtain ⟨g1, g2⟩ := slow_is n a b c d _ _ _ f2 h2 f3 f4
      by_cases hm : mm n a b c d = need a
      · unfold ch wd
        rw [if_neg (by omega), if_pos ⟨h2, hm⟩, if_neg (by omega), if_neg (by omega), hm]
        exact g1 hm
      · rw [g2 hm] at h
        exact absurd ⟨rfl, rfl⟩ h

/-- where DecodeRune finds none, FullRune tells how many bytes the longest beginning has -/
theorem beginning_is (n k a b c d : Nat) (hn : 1 ≤ n) (ha : a < 256) (hb : b < 256) (hc : c < 256) (hd : d < 256)
    (h : (decodeN n a b c d).1 = 65533 ∧ (decodeN n a b c d).2 = 1) (hk : 1 ≤ k) (hkn : k ≤ n) (h0 : k = 1 ∨ full k a b c = false) (h1 : k = n ∨ full (k + 1 : Int) a b c = true) :
    (65533 : Int) = ch n a b c d ∧ (k : Int) = wd n a b c d := by
  by_cases g1 : a < 128
  · rw [ascii_eq n a b c d (firstT_ascii g1)] at h
    have := h.1
    simp only at this
    omega
  · by_cases g2 : need (a : Int) = 0
    · have hk1 : k = 1 := by
        rcases h0 with h0 | h0
        · exact h0
        · unfold full at h0
          have := of_decide_eq_false h0
          omega
      unfold ch wd
      rw [if_neg (by omega), if_neg (by omega), if_neg (by omega)]
      have : mm n a b c d = 0 := by unfold mm; rw [if_pos g2]
      rw [if_pos this]
      omega
    · obtain ⟨f1, f2, f3, f4⟩ := firstT_some g2
      rw [← slow_eq n a b c d hn hb hc hd f1] at h
      obtain ⟨e1, e2⟩ := slow_is n a b c d _ _ _ f2 g2 f3 f4
      have hm : mm n a b c d ≠ need a := by
        intro hm
        have := e1 hm
        have hcase := need_case (a : Int)
        omega
      unfold ch wd
      rw [if_neg (by omega), if_neg (by omega), if_neg (by omega)]
      clear e1 e2 h f1 f2 f3 f4
      have hf : ∀ m : Int, full m a b c = true ↔ (((a : Int) < 128 ∨ need a ≤ m) ∨ (1 < m ∧ ((b : Int) < lo2 a ∨ hi2 a < b)) ∨ (2 < m ∧ ((c : Int) < 128 ∨ 191 < (c : Int)))) := fun m => by unfold full; exact decide_eq_true_iff
      have h0' : k = 1 ∨ ¬ (((a : Int) < 128 ∨ need a ≤ k) ∨ (1 < (k : Int) ∧ ((b : Int) < lo2 a ∨ hi2 a < b)) ∨ (2 < (k : Int) ∧ ((c : Int) < 128 ∨ 191 < (c : Int)))) := h0.imp_right fun h => by rw [← hf]; simp [h]
      rw [hf] at h1
      have hcase := need_case (a : Int)
      have hmk : mm n a b c d = k := by
        revert hm
        unfold mm
        generalize lo2 (a : Int) = lo at *
        generalize hi2 (a : Int) = hi at *
        generalize need (a : Int) = s at *
        clear hf h0
        intro hm
        repeat' split at hm
        all_goals repeat' split
        all_goals omega
      rw [if_neg (by omega)]
      omega
end Ru
end Go.Proofs.YtgcmjkimiakibaaGreatDoor

/-
  Plain mathematics of bytes as characters: lists of bytes, what is written is read, parts are read one behind the other. No run of the program in this text.
-/
namespace Go.Proofs.YtgcmjkimiakibaaGreatDoor
namespace Ru

def g (l : List Int) (i : Nat) : Int := l.getD i 0
def chL (l : List Int) : Int := ch l.length (g l 0) (g l 1) (g l 2) (g l 3)
def wdL (l : List Int) : Nat := (wd l.length (g l 0) (g l 1) (g l 2) (g l 3)).toNat
def plain (c : Int) : Int := if c = 13 ∨ c = 12 then 10 else if c = 0 then 65533 else c
/-- how many bytes are gone past -/
def st (l : List Int) : Nat := if chL l = 13 ∧ wdL l < l.length ∧ g l (wdL l) = 10 then wdL l + 1 else wdL l
def rdF : Nat → List Int → List Int
  | 0, _ => []
  | f + 1, l => if l = [] then [] else plain (chL l) :: rdF f (l.drop (st l))
/-- the characters of bytes -/
def rd (l : List Int) : List Int := rdF l.length l
/-- is it a character? -/
def Is (c : Int) : Prop := 0 ≤ c ∧ c ≤ 1114111 ∧ (c < 55296 ∨ 57343 < c)

theorem len_pos {l : List Int} (h : l ≠ []) : 1 ≤ l.length := by
  cases l with
  | nil => exact absurd rfl h
  | cons => simp
theorem wdL_le {l : List Int} (h : l ≠ []) : 1 ≤ wdL l ∧ wdL l ≤ 4 ∧ wdL l ≤ l.length := by
  have h1 := len_pos h
  have := wd_le l.length (g l 0) (g l 1) (g l 2) (g l 3) (by omega)
  unfold wdL; omega
theorem wdL_int {l : List Int} (h : l ≠ []) : (wdL l : Int) = wd l.length (g l 0) (g l 1) (g l 2) (g l 3) := by
  have h1 := len_pos h
  have := wd_le l.length (g l 0) (g l 1) (g l 2) (g l 3) (by omega)
  unfold wdL; omega
theorem st_le {l : List Int} (h : l ≠ []) : 1 ≤ st l ∧ st l ≤ l.length := by
  have := wdL_le h
  unfold st; split <;> omega
theorem rdF_nil (f : Nat) : rdF f [] = [] := by cases f <;> simp [rdF]
theorem rdF_more : ∀ (f : Nat) (l : List Int), l.length ≤ f → rdF f l = rd l
  | 0, l, h => by
    have : l = [] := List.eq_nil_of_length_eq_zero (by omega)
    subst this; rfl
  | f + 1, l, h => by
    by_cases hl : l = []
    · subst hl; simp [rdF_nil, rd]
    · have h1 := len_pos hl
      have hs := st_le hl
      obtain ⟨m, hm⟩ : ∃ m, l.length = m + 1 := ⟨l.length - 1, by omega⟩
      have hd : (l.drop (st l)).length = l.length - st l := by simp
      unfold rd
      rw [hm]
      unfold rdF
      rw [if_neg hl, if_neg hl, rdF_more f _ (by omega), rdF_more m _ (by omega)]
termination_by f => f
theorem rd_nil : rd [] = [] := rfl
theorem rd_cons {l : List Int} (h : l ≠ []) : rd l = plain (chL l) :: rd (l.drop (st l)) := by
  have h1 := len_pos h
  have hs := st_le h
  obtain ⟨m, hm⟩ : ∃ m, l.length = m + 1 := ⟨l.length - 1, by omega⟩
  have hd : (l.drop (st l)).length = l.length - st l := by simp
  rw [← rdF_more (m + 1) l (by omega)]
  unfold rdF
  rw [if_neg h, rdF_more m _ (by omega)]

/-! ### what is told is a character -/
theorem val_is {n a b c d : Int} (ha : 128 ≤ a) (h0 : need a ≠ 0) (hm : mm n a b c d = need a) : 128 ≤ val a b c d ∧ Is (val a b c d) := by
  have hc := need_case a
  unfold Is
  rcases hc with hc | hc | hc | hc
  · exact absurd hc h0
  all_goals
    unfold mm at hm
    unfold val
    rw [hc] at hm ⊢
    simp only [Int.reduceEq, if_false, if_true] at hm ⊢
    unfold need at hc
    unfold lo2 hi2 at hm
    repeat' split at hm
    all_goals first | omega | skip
theorem ch_is {n a b c d : Int} (ha : 0 ≤ a) : Is (ch n a b c d) := by
  unfold ch
  split
  · unfold Is; omega
  · split
    · rename_i h1 h2
      exact (val_is (by omega) h2.1 h2.2).2
    · unfold Is; omega
theorem plain_is {c : Int} (h : Is c) : Is (plain c) ∧ plain c ≠ 0 ∧ plain c ≠ 12 ∧ plain c ≠ 13 := by
  unfold plain Is at *
  repeat' split
  all_goals omega
/-- only the byte 13 is 13 -/
theorem wd_13 {n a b c d : Int} (h : ch n a b c d = 13) : wd n a b c d = 1 := by
  unfold ch at h
  unfold wd
  by_cases h1 : a < 128
  · rw [if_pos h1]
  · rw [if_neg h1] at h
    split at h
    · rename_i h2
      have := (val_is (by omega) h2.1 h2.2).1
      omega
    · omega
def By (l : List Int) : Prop := ∀ c ∈ l, 0 ≤ c ∧ c < 256
theorem By.drop {l : List Int} (h : By l) (k : Nat) : By (l.drop k) := fun c hc => h c (List.mem_of_mem_drop hc)
theorem By.at_ {l : List Int} (h : By l) (i : Nat) : 0 ≤ g l i ∧ g l i < 256 := by
  unfold g
  by_cases hi : i < l.length
  · rw [List.getD_eq_getElem?_getD, List.getElem?_eq_getElem hi]
    exact h _ (List.getElem_mem hi)
  · rw [List.getD_eq_getElem?_getD, List.getElem?_eq_none (by omega)]
    exact ⟨by simp, by simp⟩
theorem chL_is {l : List Int} (h : By l) : Is (chL l) := ch_is (h.at_ 0).1
theorem rd_is : ∀ (f : Nat) (l : List Int), By l → ∀ c ∈ rdF f l, Is c ∧ c ≠ 0 ∧ c ≠ 12 ∧ c ≠ 13
  | 0, _, _ => by intro c hc; simp [rdF] at hc
  | f + 1, l, h => by
    intro c hc
    unfold rdF at hc
    split at hc
    · simp at hc
    · rcases List.mem_cons.1 hc with rfl | hc
      · exact plain_is (chL_is h)
      · exact rd_is f _ (h.drop _) c hc
theorem rd_len : ∀ (f : Nat) (l : List Int), (rdF f l).length ≤ l.length
  | 0, _ => by simp [rdF]
  | f + 1, l => by
    unfold rdF
    split
    · simp
    · rename_i hl
      have h := rd_len f (l.drop (st l))
      have hs := st_le hl
      rw [List.length_drop] at h
      rw [List.length_cons]
      omega
end Ru
end Go.Proofs.YtgcmjkimiakibaaGreatDoor

/-
  Plain mathematics of bytes as characters: what is written is read; parts are read one behind the other. No run of the program in this text.
-/
namespace Go.Proofs.YtgcmjkimiakibaaGreatDoor
namespace Ru
open Go.Lib

theorem g_zero (x : Int) (l : List Int) : g (x :: l) 0 = x := rfl
theorem g_succ (x : Int) (l : List Int) (i : Nat) : g (x :: l) (i + 1) = g l i := rfl
theorem g_none {l : List Int} {i : Nat} (h : l.length ≤ i) : g l i = 0 := by
  unfold g
  rw [List.getD_eq_getElem?_getD, List.getElem?_eq_none h]; rfl
theorem g_left {a b : List Int} {i : Nat} (h : i < a.length) : g (a ++ b) i = g a i := by
  unfold g
  rw [List.getD_eq_getElem?_getD, List.getD_eq_getElem?_getD, List.getElem?_append_left h]
theorem g_mid {a b : List Int} : g (a ++ b) a.length = g b 0 := by
  unfold g
  rw [List.getD_eq_getElem?_getD, List.getD_eq_getElem?_getD, List.getElem?_append_right (by omega), Nat.sub_self]

/-! ### what is written is read -/
theorem enc_one {c : Int} (h0 : 0 ≤ c) (h1 : c ≤ 127) (n b d e : Int) : ch n c b d e = c ∧ wd n c b d e = 1 := by
  unfold ch wd; rw [if_pos (by omega), if_pos (by omega)]; exact ⟨rfl, rfl⟩
theorem need_two {a : Int} (h : 194 ≤ a ∧ a < 224) : need a = 2 := by unfold need; omega
theorem need_three {a : Int} (h : 224 ≤ a ∧ a < 240) : need a = 3 := by unfold need; omega
theorem need_four {a : Int} (h : 240 ≤ a ∧ a < 245) : need a = 4 := by unfold need; omega
theorem enc_two {c : Int} (h0 : 128 ≤ c) (h1 : c ≤ 2047) (n d e : Int) (hn : 2 ≤ n) : ch n (192 + c / 64) (128 + c % 64) d e = c ∧ wd n (192 + c / 64) (128 + c % 64) d e = 2 := by
  have hs := need_two (a := 192 + c / 64) (by omega)
  have hm : mm n (192 + c / 64) (128 + c % 64) d e = 2 := by
    unfold mm lo2 hi2
    rw [hs]
    simp only [Int.reduceEq, if_true, if_false]
    rw [if_neg (by omega)]
  unfold ch wd val
  rw [hm, hs]
  refine ⟨?_, ?_⟩
  · rw [if_neg (by omega), if_pos (by omega)]
    simp only [Int.reduceEq, if_true, if_false]
    omega
  · rw [if_neg (by omega), if_neg (by omega)]
theorem enc_three {c : Int} (h : (2048 ≤ c ∧ c < 55296) ∨ (57343 < c ∧ c ≤ 65535)) (n e : Int) (hn : 3 ≤ n) : ch n (224 + c / 4096) (128 + c / 64 % 64) (128 + c % 64) e = c ∧ wd n (224 + c / 4096) (128 + c / 64 % 64) (128 + c % 64) e = 3 := by
  have hs := need_three (a := 224 + c / 4096) (by omega)
  have hm : mm n (224 + c / 4096) (128 + c / 64 % 64) (128 + c % 64) e = 3 := by
    unfold mm lo2 hi2
    rw [hs]
    simp only [Int.reduceEq, if_true, if_false]
    rw [if_neg (by omega), if_neg (by omega)]
  unfold ch wd val
  rw [hm, hs]
  refine ⟨?_, ?_⟩
  · rw [if_neg (by omega), if_pos (by omega)]
    simp only [Int.reduceEq, if_true, if_false]
    omega
  · rw [if_neg (by omega), if_neg (by omega)]
theorem enc_four {c : Int} (h0 : 65536 ≤ c) (h1 : c ≤ 1114111) (n : Int) (hn : 4 ≤ n) : ch n (240 + c / 262144) (128 + c / 4096 % 64) (128 + c / 64 % 64) (128 + c % 64) = c ∧ wd n (240 + c / 262144) (128 + c / 4096 % 64) (128 + c / 64 % 64) (128 + c % 64) = 4 := by
  have hs := need_four (a := 240 + c / 262144) (by omega)
  have hm : mm n (240 + c / 262144) (128 + c / 4096 % 64) (128 + c / 64 % 64) (128 + c % 64) = 4 := by
    unfold mm lo2 hi2
    rw [hs]
    simp only [Int.reduceEq, if_false]
    rw [if_neg (by omega), if_neg (by omega), if_neg (by omega)]
  unfold ch wd val
  rw [hm, hs]
  refine ⟨?_, ?_⟩
  · rw [if_neg (by omega), if_pos (by omega)]
    simp only [Int.reduceEq, if_false]
    omega
  · rw [if_neg (by omega), if_neg (by omega)]

theorem enc_ch {c : Int} (h : Is c) (r : List Int) : chL (encodeRuneZ c ++ r) = c ∧ wdL (encodeRuneZ c ++ r) = (encodeRuneZ c).length := by
  unfold Is at h
  unfold wdL chL
  by_cases h1 : c ≤ 127
  · rw [encodeRuneZ_one h.1 h1]
    simp only [List.cons_append, List.nil_append, g_zero, g_succ, List.length_cons, List.length_nil]
    obtain ⟨e1, e2⟩ := enc_one h.1 h1 ((r.length + 1 : Nat) : Int) (g r 0) (g r 1) (g r 2)
    rw [e2]
    exact ⟨e1, rfl⟩
  · by_cases h2 : c ≤ 2047
    · rw [encodeRuneZ_two (by omega) h2]
      simp only [List.cons_append, List.nil_append, g_zero, g_succ, List.length_cons, List.length_nil]
      obtain ⟨e1, e2⟩ := enc_two (by omega) h2 ((r.length + 1 + 1 : Nat) : Int) (g r 0) (g r 1) (by omega)
      rw [e2]
      exact ⟨e1, rfl⟩
    · by_cases h3 : c ≤ 65535
      · rw [encodeRuneZ_three (by omega)]
        simp only [List.cons_append, List.nil_append, g_zero, g_succ, List.length_cons, List.length_nil]
        obtain ⟨e1, e2⟩ := enc_three (c := c) (by omega) ((r.length + 1 + 1 + 1 : Nat) : Int) (g r 0) (by omega)
        rw [e2]
        exact ⟨e1, rfl⟩
      · rw [encodeRuneZ_four (by omega) (by omega)]
        simp only [List.cons_append, List.nil_append, g_zero, g_succ, List.length_cons, List.length_nil]
        obtain ⟨e1, e2⟩ := enc_four (c := c) (by omega) (by omega) ((r.length + 1 + 1 + 1 + 1 : Nat) : Int) (by omega)
        rw [e2]
        exact ⟨e1, rfl⟩

theorem rd_enc : ∀ (l : List Int), (∀ c ∈ l, Is c ∧ c ≠ 0 ∧ c ≠ 12 ∧ c ≠ 13) → rd (l.flatMap encodeRuneZ) = l
  | [], _ => rfl
  | c :: t, h => by
    obtain ⟨h1, h2, h3, h4⟩ := h c (by simp)
    have ih := rd_enc t (fun x hx => h x (by simp [hx]))
    obtain ⟨e1, e2⟩ := enc_ch h1 (t.flatMap encodeRuneZ)
    have hl := encodeRuneZ_length c
    have hne : encodeRuneZ c ++ t.flatMap encodeRuneZ ≠ [] := fun hn => by
      have : (encodeRuneZ c ++ t.flatMap encodeRuneZ).length = 0 := by rw [hn]; rfl
      rw [List.length_append] at this
      omega
    rw [List.flatMap_cons, rd_cons hne]
    have hst : st (encodeRuneZ c ++ t.flatMap encodeRuneZ) = (encodeRuneZ c).length := by
      unfold st
      rw [if_neg (by rw [e1]; exact fun hh => h4 hh.1), e2]
    have hp : plain c = c := by unfold plain; rw [if_neg (by omega), if_neg h2]
    rw [hst, e1, hp, List.drop_left, ih]

/-! ### parts -/
theorem mm_parts {n k a b c d b' c' d' : Int} (hn : 1 ≤ n) (hk : 0 < k) (h1 : 1 < n → b' = b) (h2 : 2 < n → c' = c) (h3 : 3 < n → d' = d)
    (g1 : n = 1 → b' < 128) (g2 : n = 2 → c' < 128) (g3 : n = 3 → d' < 128) : mm (n + k) a b' c' d' = mm n a b c d := by
  have hl : 128 ≤ lo2 a := by unfold lo2; omega
  unfold mm
  by_cases c1 : n = 1
  · subst c1
    have := g1 rfl
    split
    · rfl
    · rw [if_pos (by omega), if_pos (by omega)]
  · rw [h1 (by omega)]
    by_cases c2 : n = 2
    · subst c2
      have := g2 rfl
      repeat' split
      all_goals first | rfl | omega
    · rw [h2 (by omega)]
      by_cases c3 : n = 3
      · subst c3
        have := g3 rfl
        repeat' split
        all_goals first | rfl | omega
      · rw [h3 (by omega)]
        repeat' split
        all_goals first | rfl | omega
theorem val_parts {n a b c d b' c' d' : Int} (h1 : 1 < n → b' = b) (h2 : 2 < n → c' = c) (h3 : 3 < n → d' = d) (hn : need a ≤ n) (h0 : need a ≠ 0) : val a b' c' d' = val a b c d := by
  have hc := need_case a
  unfold val
  rcases hc with hc | hc | hc | hc
  · exact absurd hc h0
  · rw [hc, h1 (by omega)]; rfl
  · rw [hc, h1 (by omega), h2 (by omega)]; rfl
  · rw [hc, h1 (by omega), h2 (by omega), h3 (by omega)]

theorem parts_ch {a b : List Int} (ha : a ≠ []) (hb : b ≠ []) (h : g b 0 < 128) : chL (a ++ b) = chL a ∧ wdL (a ++ b) = wdL a := by
  have la := len_pos ha
  have lb := len_pos hb
  have e0 : g (a ++ b) 0 = g a 0 := g_left (by omega)
  have e1 : (1 : Int) < a.length → g (a ++ b) 1 = g a 1 := fun h => g_left (by omega)
  have e2 : (2 : Int) < a.length → g (a ++ b) 2 = g a 2 := fun h => g_left (by omega)
  have e3 : (3 : Int) < a.length → g (a ++ b) 3 = g a 3 := fun h => g_left (by omega)
  have m1 : (a.length : Int) = 1 → g (a ++ b) 1 < 128 := fun e => by
    have : a.length = 1 := by omega
    rw [← this, g_mid]; exact h
  have m2 : (a.length : Int) = 2 → g (a ++ b) 2 < 128 := fun e => by
    have : a.length = 2 := by omega
    rw [← this, g_mid]; exact h
  have m3 : (a.length : Int) = 3 → g (a ++ b) 3 < 128 := fun e => by
    have : a.length = 3 := by omega
    rw [← this, g_mid]; exact h
  have hmm := mm_parts (n := a.length) (k := b.length) (a := g a 0) (by omega) (by omega) e1 e2 e3 m1 m2 m3
  have hle := mm_le a.length (g a 0) (g a 1) (g a 2) (g a 3) (by omega)
  have hlen : ((a ++ b).length : Int) = a.length + b.length := by simp
  unfold chL wdL ch wd
  rw [hlen, e0, hmm]
  constructor
  · split
    · rfl
    · split
      · rename_i h1 h2
        exact val_parts e1 e2 e3 (by omega) h2.1
      · rfl
  · rfl
theorem parts_st {a b : List Int} (ha : a ≠ []) (hb : b ≠ []) (h : g b 0 < 128) (h10 : g b 0 ≠ 10) : st (a ++ b) = st a := by
  obtain ⟨e1, e2⟩ := parts_ch ha hb h
  have hw := wdL_le ha
  have lb := len_pos hb
  unfold st
  rw [e1, e2, List.length_append]
  by_cases hc : wdL a < a.length
  · rw [g_left hc]
    have : wdL a < a.length + b.length := by omega
    simp only [hc, this, true_and]
  · have he : wdL a = a.length := by omega
    rw [he, g_mid, if_neg (fun hh => h10 hh.2.2), if_neg (fun hh => by omega)]
theorem rd_parts (b : List Int) (hb : b ≠ []) (h : g b 0 < 128) (h10 : g b 0 ≠ 10) : ∀ (f : Nat) (a : List Int), a.length ≤ f → rd (a ++ b) = rd a ++ rd b
  | 0, a, hf => by
    have : a = [] := List.eq_nil_of_length_eq_zero (by omega)
    subst this; simp [rd_nil]
  | f + 1, a, hf => by
    by_cases ha : a = []
    · subst ha; simp [rd_nil]
    · have hs := st_le ha
      have la := len_pos ha
      have hne : a ++ b ≠ [] := by simp [ha]
      rw [rd_cons hne, rd_cons ha, (parts_ch ha hb h).1, parts_st ha hb h h10, List.drop_append_of_le_length hs.2, rd_parts b hb h h10 f _ (by rw [List.length_drop]; omega)]
      rfl
end Ru
end Go.Proofs.YtgcmjkimiakibaaGreatDoor

/-
  What a character is: plain words.
-/
namespace Go.Proofs.YtgcmjkimiakibaaGreatDoor
open Go.RowKit

namespace Ru
def isB (c : Int) : Bool := decide (0 ≤ c ∧ c ≤ 1114111 ∧ (c < 55296 ∨ 57343 < c))
def letB (c : Int) : Bool := decide ((97 ≤ c ∧ c ≤ 122) ∨ (65 ≤ c ∧ c ≤ 90))
def digB (c : Int) : Bool := decide (48 ≤ c ∧ c ≤ 57)
def whiB (c : Int) : Bool := decide (c = 9 ∨ c = 10 ∨ c = 32)
def begB (c : Int) : Bool := decide (((97 ≤ c ∧ c ≤ 122) ∨ (65 ≤ c ∧ c ≤ 90)) ∨ c = 95 ∨ (128 ≤ c ∧ (0 ≤ c ∧ c ≤ 1114111 ∧ (c < 55296 ∨ 57343 < c))))
def witB (c : Int) : Bool := begB c || decide ((48 ≤ c ∧ c ≤ 57) ∨ c = 45)
def hexV (c : Int) : Int := if 48 ≤ c ∧ c ≤ 57 then c - 48 else if 97 ≤ c ∧ c ≤ 102 then c - 87 else if 65 ≤ c ∧ c ≤ 70 then c - 55 else -1
theorem isB_iff {c : Int} : isB c = true ↔ Is c := by unfold isB Is; exact decide_eq_true_iff
theorem eq_f {a b : Int} (h : ¬ a = b) : (a == b) = false := by rw [beq_eq_false_iff_ne]; exact h
theorem eq_t {a b : Int} (h : a = b) : (a == b) = true := by rw [beq_iff_eq]; exact h
end Ru
end Go.Proofs.YtgcmjkimiakibaaGreatDoor

/-
  Plain words of tokens: what stands at a place of characters. No run of the program in this text.
-/
namespace Go.Proofs.YtgcmjkimiakibaaGreatDoor
namespace Tk
open Ru

/-- the character at a place; -1: there is none -/
def at' (l : List Int) (k : Nat) : Int := if k < l.length then g l k else -1
/-- an escape stands there -/
def esc (l : List Int) (k : Nat) : Bool := decide (at' l k = 92 ∧ 0 ≤ at' l (k + 1) ∧ at' l (k + 1) ≠ 10)
/-- hex digits, f at most, from j on -/
def hexR : Nat → List Int → Nat → Int → Int × Nat
  | 0, _, j, n => (n, j)
  | f + 1, l, j, n => if 0 ≤ hexV (at' l j) then hexR f l (j + 1) (n * 16 + hexV (at' l j)) else (n, j)
/-- what the escape there means, and where it ends -/
def meant (l : List Int) (k : Nat) : Int × Nat :=
  if (hexR 6 l (k + 1) 0).2 = k + 1 then (g l (k + 1), k + 2)
  else (if (hexR 6 l (k + 1) 0).1 = 0 ∨ isB (hexR 6 l (k + 1) 0).1 = false then 65533 else (hexR 6 l (k + 1) 0).1,
    if whiB (at' l (hexR 6 l (k + 1) 0).2) = true then (hexR 6 l (k + 1) 0).2 + 1 else (hexR 6 l (k + 1) 0).2)
def may (l : List Int) (k : Nat) : Bool := begB (at' l k) || esc l k
/-- a name begins there -/
def begs (l : List Int) (k : Nat) : Bool := may l k || (decide (at' l k = 45) && (may l (k + 1) || decide (at' l (k + 1) = 45)))
/-- it goes on within a name -/
def inN (l : List Int) (k : Nat) : Bool := esc l k || witB (at' l k)
/-- one character of a name, and where the next one is -/
def oneN (l : List Int) (k : Nat) : Int × Nat := if at' l k = 92 then meant l k else (at' l k, k + 1)
def nameF : Nat → List Int → Nat → List Int × Nat
  | 0, _, k => ([], k)
  | f + 1, l, k => if inN l k = true then ((oneN l k).1 :: (nameF f l (oneN l k).2).1, (nameF f l (oneN l k).2).2) else ([], k)
/-- the name there, and where it ends -/
def name (l : List Int) (k : Nat) : List Int × Nat := nameF l.length l k

/-! ### bounds -/
theorem at_lt {l : List Int} {k : Nat} (h : at' l k ≠ -1) : k < l.length := by
  unfold at' at h
  by_cases c : k < l.length
  · exact c
  · rw [if_neg c] at h; exact absurd rfl h
theorem at_in {l : List Int} {k : Nat} (h : k < l.length) : at' l k = g l k := by unfold at'; rw [if_pos h]
theorem at_out {l : List Int} {k : Nat} (h : ¬ k < l.length) : at' l k = -1 := by unfold at'; rw [if_neg h]
theorem hexV_out : hexV (-1) = -1 := by decide
theorem hexV_le (c : Int) : -1 ≤ hexV c ∧ hexV c ≤ 15 := by unfold hexV; omega
theorem hexR_le : ∀ (f : Nat) (l : List Int) (j : Nat) (n : Int), j ≤ (hexR f l j n).2 ∧ (hexR f l j n).2 ≤ j + f ∧ (j ≤ l.length → (hexR f l j n).2 ≤ l.length)
  | 0, _, _, _ => by unfold hexR; simp
  | f + 1, l, j, n => by
    unfold hexR
    by_cases c : 0 ≤ hexV (at' l j)
    · rw [if_pos c]
      have ih := hexR_le f l (j + 1) (n * 16 + hexV (at' l j))
      have hj : j < l.length := at_lt (fun e => by rw [e, hexV_out] at c; omega)
      omega
    · rw [if_neg c]; simp
theorem hexR_val : ∀ (f : Nat) (l : List Int) (j : Nat) (n B : Int), 0 ≤ n → n < B → 0 ≤ (hexR f l j n).1 ∧ (hexR f l j n).1 < B * 16 ^ f
  | 0, _, _, n, B, h0, h1 => by unfold hexR; simp; omega
  | f + 1, l, j, n, B, h0, h1 => by
    unfold hexR
    have hp : (16 : Int) ^ (f + 1) = 16 * 16 ^ f := by rw [Int.pow_succ, Int.mul_comm]
    have hq : B * 16 ^ (f + 1) = (B * 16) * 16 ^ f := by rw [hp, Int.mul_assoc]
    rw [hq]
    by_cases c : 0 ≤ hexV (at' l j)
    · rw [if_pos c]
      have hh := hexV_le (at' l j)
      exact hexR_val f l (j + 1) _ (B * 16) (by omega) (by omega)
    · rw [if_neg c]
      have hpos : (1 : Int) ≤ 16 ^ f := Int.pow_pos (by decide)
      refine ⟨h0, ?_⟩
      have : (B * 16) * 1 ≤ (B * 16) * 16 ^ f := Int.mul_le_mul_of_nonneg_left hpos (by omega)
      show n < _
      omega
theorem esc_lt {l : List Int} {k : Nat} (h : esc l k = true) : k + 1 < l.length ∧ at' l k = 92 ∧ at' l (k + 1) ≠ 10 := by
  unfold esc at h
  have := of_decide_eq_true h
  exact ⟨at_lt (fun e => by omega), this.1, this.2.2⟩
theorem meant_le {l : List Int} {k : Nat} (h : k + 1 < l.length) : k + 2 ≤ (meant l k).2 ∧ (meant l k).2 ≤ l.length := by
  have hr := hexR_le 6 l (k + 1) 0
  unfold meant
  split
  · simp only; omega
  · rename_i h1
    simp only
    split
    · rename_i h2
      have hw : (hexR 6 l (k + 1) 0).2 < l.length := at_lt (fun e => by rw [e] at h2; revert h2; decide)
      omega
    · omega
theorem begB_out : begB (-1) = false := by decide
theorem witB_out : witB (-1) = false := by decide
theorem inN_lt {l : List Int} {k : Nat} (h : inN l k = true) : k < l.length := by
  unfold inN at h
  rw [Bool.or_eq_true] at h
  rcases h with h | h
  · have := (esc_lt h).1; omega
  · exact at_lt (fun e => by rw [e, witB_out] at h; cases h)
/-- an escape, or a character that is none of one -/
theorem inN_esc {l : List Int} {k : Nat} (h : inN l k = true) (h92 : at' l k = 92) : esc l k = true := by
  unfold inN at h
  rw [Bool.or_eq_true] at h
  rcases h with h | h
  · exact h
  · rw [h92, show witB 92 = false by decide] at h; cases h
theorem oneN_le {l : List Int} {k : Nat} (h : inN l k = true) : k + 1 ≤ (oneN l k).2 ∧ (oneN l k).2 ≤ l.length := by
  have hk := inN_lt h
  unfold oneN
  split
  · rename_i h92
    have := meant_le (esc_lt (inN_esc h h92)).1
    omega
  · simp only; omega
theorem nameF_more : ∀ (f : Nat) (l : List Int) (k : Nat), l.length - k ≤ f → nameF f l k = nameF (l.length - k) l k
  | 0, l, k, h => by rw [show l.length - k = 0 by omega]
  | f + 1, l, k, h => by
    by_cases hi : inN l k = true
    · have hk := inN_lt hi
      have ho := oneN_le hi
      obtain ⟨m, hm⟩ : ∃ m, l.length - k = m + 1 := ⟨l.length - k - 1, by omega⟩
      rw [hm]
      unfold nameF
      rw [if_pos hi, if_pos hi, nameF_more f _ _ (by omega), nameF_more m _ _ (by omega)]
    · obtain ⟨m, hm⟩ : ∃ m, l.length - k = m := ⟨_, rfl⟩
      rw [hm]
      cases m with
      | zero => unfold nameF; rw [if_neg hi]
      | succ m => unfold nameF; rw [if_neg hi, if_neg hi]
termination_by f => f
theorem name_yes {l : List Int} {k : Nat} (h : inN l k = true) : name l k = ((oneN l k).1 :: (name l (oneN l k).2).1, (name l (oneN l k).2).2) := by
  have hk := inN_lt h
  have ho := oneN_le h
  obtain ⟨m, hm⟩ : ∃ m, l.length = m + 1 := ⟨l.length - 1, by omega⟩
  unfold name
  rw [nameF_more l.length l (oneN l k).2 (by omega), ← nameF_more m l (oneN l k).2 (by omega)]
  rw [hm]
  conv => lhs; unfold nameF
  rw [if_pos h]
theorem name_no {l : List Int} {k : Nat} (h : inN l k = false) : name l k = ([], k) := by
  unfold name
  cases hl : l.length with
  | zero => unfold nameF; rfl
  | succ m => unfold nameF; rw [if_neg (by rw [h]; decide)]
end Tk
end Go.Proofs.YtgcmjkimiakibaaGreatDoor
