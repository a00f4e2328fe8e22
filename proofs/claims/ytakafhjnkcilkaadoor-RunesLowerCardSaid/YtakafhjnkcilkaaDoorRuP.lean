/-
  Plain mathematics of bytes as characters: what is written is read; parts are read one behind the other. No run of the program in this text.
-/
import Derived.Test.YtakafhjnkcilkaaDoorRuN
namespace Go.Proofs.YtakafhjnkcilkaaDoor
namespace Ru
open Go.Lib

theorem g_zero (x : Int) (l : List Int) : g (x :: l) 0 = x := rfl
theorem g_succ (x : Int) (l : List Int) (i : Nat) : g (x :: l) (i + 1) = g l i := rfl
theorem g_none {l : List Int} {i : Nat} (h : l.length ≤ i) : g l i = 0 := by
  unfold g
  rw [List.getD_eq_getElem?_getD, List.getElem?_eq_none h]; rfl
theorem g_left {a b : List Int} {i : Nat} (h : i < a.length) : g (a ++ b) i = g a i := by
  unfold g
  rw [List.getD_eq_getElem?_getD, List.getD_eq_getElem?_getD, List.getElem?_append_left h]
theorem g_mid {a b : List Int} : g (a ++ b) a.length = g b 0 := by
  unfold g
  rw [List.getD_eq_getElem?_getD, List.getD_eq_getElem?_getD, List.getElem?_append_right (by omega), Nat.sub_self]

/-! ### what is written is read -/
theorem enc_one {c : Int} (h0 : 0 ≤ c) (h1 : c ≤ 127) (n b d e : Int) : ch n c b d e = c ∧ wd n c b d e = 1 := by
  unfold ch wd; rw [if_pos (by omega), if_pos (by omega)]; exact ⟨rfl, rfl⟩
theorem need_two {a : Int} (h : 194 ≤ a ∧ a < 224) : need a = 2 := by unfold need; omega
theorem need_three {a : Int} (h : 224 ≤ a ∧ a < 240) : need a = 3 := by unfold need; omega
theorem need_four {a : Int} (h : 240 ≤ a ∧ a < 245) : need a = 4 := by unfold need; omega
theorem enc_two {c : Int} (h0 : 128 ≤ c) (h1 : c ≤ 2047) (n d e : Int) (hn : 2 ≤ n) : ch n (192 + c / 64) (128 + c % 64) d e = c ∧ wd n (192 + c / 64) (128 + c % 64) d e = 2 := by
  have hs := need_two (a := 192 + c / 64) (by omega)
  have hm : mm n (192 + c / 64) (128 + c % 64) d e = 2 := by
    unfold mm lo2 hi2
    rw [hs]
    simp only [Int.reduceEq, if_true, if_false]
    rw [if_neg (by omega)]
  unfold ch wd val
  rw [hm, hs]
  refine ⟨?_, ?_⟩
  · rw [if_neg (by omega), if_pos (by omega)]
    simp only [Int.reduceEq, if_true, if_false]
    omega
  · rw [if_neg (by omega), if_neg (by omega)]
theorem enc_three {c : Int} (h : (2048 ≤ c ∧ c < 55296) ∨ (57343 < c ∧ c ≤ 65535)) (n e : Int) (hn : 3 ≤ n) : ch n (224 + c / 4096) (128 + c / 64 % 64) (128 + c % 64) e = c ∧ wd n (224 + c / 4096) (128 + c / 64 % 64) (128 + c % 64) e = 3 := by
  have hs := need_three (a := 224 + c / 4096) (by omega)
  have hm : mm n (224 + c / 4096) (128 + c / 64 % 64) (128 + c % 64) e = 3 := by
    unfold mm lo2 hi2
    rw [hs]
    simp only [Int.reduceEq, if_true, if_false]
    rw [if_neg (by omega), if_neg (by omega)]
  unfold ch wd val
  rw [hm, hs]
  refine ⟨?_, ?_⟩
  · rw [if_neg (by omega), if_pos (by omega)]
    simp only [Int.reduceEq, if_true, if_false]
    omega
  · rw [if_neg (by omega), if_neg (by omega)]
theorem enc_four {c : Int} (h0 : 65536 ≤ c) (h1 : c ≤ 1114111) (n : Int) (hn : 4 ≤ n) : ch n (240 + c / 262144) (128 + c / 4096 % 64) (128 + c / 64 % 64) (128 + c % 64) = c ∧ wd n (240 + c / 262144) (128 + c / 4096 % 64) (128 + c / 64 % 64) (128 + c % 64) = 4 := by
  have hs := need_four (a := 240 + c / 262144) (by omega)
  have hm : mm n (240 + c / 262144) (128 + c / 4096 % 64) (128 + c / 64 % 64) (128 + c % 64) = 4 := by
    unfold mm lo2 hi2
    rw [hs]
    simp only [Int.reduceEq, if_false]
    rw [if_neg (by omega), if_neg (by omega), if_neg (by omega)]
  unfold ch wd val
  rw [hm, hs]
  refine ⟨?_, ?_⟩
  · rw [if_neg (by omega), if_pos (by omega)]
    simp only [Int.reduceEq, if_false]
    omega
  · rw [if_neg (by omega), if_neg (by omega)]

theorem enc_ch {c : Int} (h : Is c) (r : List Int) : chL (encodeRuneZ c ++ r) = c ∧ wdL (encodeRuneZ c ++ r) = (encodeRuneZ c).length := by
  unfold Is at h
  unfold wdL chL
  by_cases h1 : c ≤ 127
  · rw [encodeRuneZ_one h.1 h1]
    simp only [List.cons_append, List.nil_append, g_zero, g_succ, List.length_cons, List.length_nil]
    obtain ⟨e1, e2⟩ := enc_one h.1 h1 ((r.length + 1 : Nat) : Int) (g r 0) (g r 1) (g r 2)
    rw [e2]
    exact ⟨e1, rfl⟩
  · by_cases h2 : c ≤ 2047
    · rw [encodeRuneZ_two (by omega) h2]
      simp only [List.cons_append, List.nil_append, g_zero, g_succ, List.length_cons, List.length_nil]
      obtain ⟨e1, e2⟩ := enc_two (by omega) h2 ((r.length + 1 + 1 : Nat) : Int) (g r 0) (g r 1) (by omega)
      rw [e2]
      exact ⟨e1, rfl⟩
    · by_cases h3 : c ≤ 65535
      · rw [encodeRuneZ_three (by omega)]
        simp only [List.cons_append, List.nil_append, g_zero, g_succ, List.length_cons, List.length_nil]
        obtain ⟨e1, e2⟩ := enc_three (c := c) (by omega) ((r.length + 1 + 1 + 1 : Nat) : Int) (g r 0) (by omega)
        rw [e2]
        exact ⟨e1, rfl⟩
      · rw [encodeRuneZ_four (by omega) (by omega)]
        simp only [List.cons_append, List.nil_append, g_zero, g_succ, List.length_cons, List.length_nil]
        obtain ⟨e1, e2⟩ := enc_four (c := c) (by omega) (by omega) ((r.length + 1 + 1 + 1 + 1 : Nat) : Int) (by omega)
        rw [e2]
        exact ⟨e1, rfl⟩

theorem rd_enc : ∀ (l : List Int), (∀ c ∈ l, Is c ∧ c ≠ 0 ∧ c ≠ 12 ∧ c ≠ 13) → rd (l.flatMap encodeRuneZ) = l
  | [], _ => rfl
  | c :: t, h => by
    obtain ⟨h1, h2, h3, h4⟩ := h c (by simp)
    have ih := rd_enc t (fun x hx => h x (by simp [hx]))
    obtain ⟨e1, e2⟩ := enc_ch h1 (t.flatMap encodeRuneZ)
    have hl := encodeRuneZ_length c
    have hne : encodeRuneZ c ++ t.flatMap encodeRuneZ ≠ [] := fun hn => by
      have : (encodeRuneZ c ++ t.flatMap encodeRuneZ).length = 0 := by rw [hn]; rfl
      rw [List.length_append] at this
      omega
    rw [List.flatMap_cons, rd_cons hne]
    have hst : st (encodeRuneZ c ++ t.flatMap encodeRuneZ) = (encodeRuneZ c).length := by
      unfold st
      rw [if_neg (by rw [e1]; exact fun hh => h4 hh.1), e2]
    have hp : plain c = c := by unfold plain; rw [if_neg (by omega), if_neg h2]
    rw [hst, e1, hp, List.drop_left, ih]

/-! ### parts -/
theorem mm_parts {n k a b c d b' c' d' : Int} (hn : 1 ≤ n) (hk : 0 < k) (h1 : 1 < n → b' = b) (h2 : 2 < n → c' = c) (h3 : 3 < n → d' = d)
    (g1 : n = 1 → b' < 128) (g2 : n = 2 → c' < 128) (g3 : n = 3 → d' < 128) : mm (n + k) a b' c' d' = mm n a b c d := by
  have hl : 128 ≤ lo2 a := by unfold lo2; omega
  unfold mm
  by_cases c1 : n = 1
  · subst c1
    have := g1 rfl
    split
    · rfl
    · rw [if_pos (by omega), if_pos (by omega)]
  · rw [h1 (by omega)]
    by_cases c2 : n = 2
    · subst c2
      have := g2 rfl
      repeat' split
      all_goals first | rfl | omega
    · rw [h2 (by omega)]
      by_cases c3 : n = 3
      · subst c3
        have := g3 rfl
        repeat' split
        all_goals first | rfl | omega
      · rw [h3 (by omega)]
        repeat' split
        all_goals first | rfl | omega
theorem val_parts {n a b c d b' c' d' : Int} (h1 : 1 < n → b' = b) (h2 : 2 < n → c' = c) (h3 : 3 < n → d' = d) (hn : need a ≤ n) (h0 : need a ≠ 0) : val a b' c' d' = val a b c d := by
  have hc := need_case a
  unfold val
  rcases hc with hc | hc | hc | hc
  · exact absurd hc h0
  · rw [hc, h1 (by omega)]; rfl
  · rw [hc, h1 (by omega), h2 (by omega)]; rfl
  · rw [hc, h1 (by omega), h2 (by omega), h3 (by omega)]

theorem parts_ch {a b : List Int} (ha : a ≠ []) (hb : b ≠ []) (h : g b 0 < 128) : chL (a ++ b) = chL a ∧ wdL (a ++ b) = wdL a := by
  have la := len_pos ha
  have lb := len_pos hb
  have e0 : g (a ++ b) 0 = g a 0 := g_left (by omega)
  have e1 : (1 : Int) < a.length → g (a ++ b) 1 = g a 1 := fun h => g_left (by omega)
  have e2 : (2 : Int) < a.length → g (a ++ b) 2 = g a 2 := fun h => g_left (by omega)
  have e3 : (3 : Int) < a.length → g (a ++ b) 3 = g a 3 := fun h => g_left (by omega)
  have m1 : (a.length : Int) = 1 → g (a ++ b) 1 < 128 := fun e => by
    have : a.length = 1 := by omega
    rw [← this, g_mid]; exact h
  have m2 : (a.length : Int) = 2 → g (a ++ b) 2 < 128 := fun e => by
    have : a.length = 2 := by omega
    rw [← this, g_mid]; exact h
  have m3 : (a.length : Int) = 3 → g (a ++ b) 3 < 128 := fun e => by
    have : a.length = 3 := by omega
    rw [← this, g_mid]; exact h
  have hmm := mm_parts (n := a.length) (k := b.length) (a := g a 0) (by omega) (by omega) e1 e2 e3 m1 m2 m3
  have hle := mm_le a.length (g a 0) (g a 1) (g a 2) (g a 3) (by omega)
  have hlen : ((a ++ b).length : Int) = a.length + b.length := by simp
  unfold chL wdL ch wd
  rw [hlen, e0, hmm]
  constructor
  · split
    · rfl
    · split
      · rename_i h1 h2
        exact val_parts e1 e2 e3 (by omega) h2.1
      · rfl
  · rfl
theorem parts_st {a b : List Int} (ha : a ≠ []) (hb : b ≠ []) (h : g b 0 < 128) (h10 : g b 0 ≠ 10) : st (a ++ b) = st a := by
  obtain ⟨e1, e2⟩ := parts_ch ha hb h
  have hw := wdL_le ha
  have lb := len_pos hb
  unfold st
  rw [e1, e2, List.length_append]
  by_cases hc : wdL a < a.length
  · rw [g_left hc]
    have : wdL a < a.length + b.length := by omega
    simp only [hc, this, true_and]
  · have he : wdL a = a.length := by omega
    rw [he, g_mid, if_neg (fun hh => h10 hh.2.2), if_neg (fun hh => by omega)]
theorem rd_parts (b : List Int) (hb : b ≠ []) (h : g b 0 < 128) (h10 : g b 0 ≠ 10) : ∀ (f : Nat) (a : List Int), a.length ≤ f → rd (a ++ b) = rd a ++ rd b
  | 0, a, hf => by
    have : a = [] := List.eq_nil_of_length_eq_zero (by omega)
    subst this; simp [rd_nil]
  | f + 1, a, hf => by
    by_cases ha : a = []
    · subst ha; simp [rd_nil]
    · have hs := st_le ha
      have la := len_pos ha
      have hne : a ++ b ≠ [] := by simp [ha]
      rw [rd_cons hne, rd_cons ha, (parts_ch ha hb h).1, parts_st ha hb h h10, List.drop_append_of_le_length hs.2, rd_parts b hb h h10 f _ (by rw [List.length_drop]; omega)]
      rfl
end Ru
end Go.Proofs.YtakafhjnkcilkaaDoor
