/-
  Plain: the tokens of two sheets with a white space between. No run of the program in this text.
-/
import Derived.Test.YtppgklmliklkkaaDoorGp0
namespace Go.Proofs.YtppgklmliklkkaaDoor
namespace Tk
open Ru
/-- the tokens, and a Space behind, if none is the last -/
def endS : List Tok → List Tok
  | [] => [(1, ⟨#[]⟩, 0)]
  | [t] => if t.1 = 1 then [t] else [t, (1, ⟨#[]⟩, 0)]
  | t :: u :: r => t :: endS (u :: r)
theorem endS_more (t : Tok) {r : List Tok} (h : r ≠ []) : endS (t :: r) = t :: endS r := by
  cases r with
  | nil => exact absurd rfl h
  | cons u s => rfl
theorem endS_one {t : Tok} (h : t.1 ≠ 1) : endS [t] = t :: endS [] := by unfold endS; rw [if_neg h]
theorem endS_tok {t : Tok} (h : t.1 ≠ 1) (r : List Tok) : endS (t :: r) = t :: endS r := by
  cases r with
  | nil => exact endS_one h
  | cons u s => rfl
/-- where the second sheet's own tokens begin -/
def gapE (l : List Int) : Nat := (sp l 0 false).1
theorem sp_free : ∀ (m : Nat) (l : List Int) (k : Nat) (b : Bool), l.length - k ≤ m → (sp l k b).1 = (sp l k true).1
  | m, l, k, b, hm => by
    cases hw : whiB (at' l k)
    · cases ho : opn l k
      · rw [sp_no hw ho, sp_no hw ho]
      · rw [sp_opn hw ho, sp_opn (b := true) hw ho]
        have hc := cmt_le ho
        have hk := opn_lt ho
        match m, hm with
        | 0, hm => omega
        | m + 1, hm => exact sp_free m l _ b (by omega)
    · rw [sp_white hw, sp_white (b := true) hw]
section
variable {A B : List Int} (ha : Rst A) (hb : Rst B)
include ha hb
theorem sp_snd : ∀ (m i : Nat) (b : Bool), B.length - i ≤ m → sp (A ++ 32 :: B) (A.length + 1 + i) b = (A.length + 1 + (sp B i b).1, (sp B i b).2)
  | m, i, b, hm => by
    cases hw : whiB (at' B i)
    · rw [sp_no hw (hb.opn i), sp_no (by rw [at_snd]; exact hw) ((ha.app hb).opn _)]
    · have hlt := whi_lt hw
      rw [sp_white hw, sp_white (by rw [at_snd]; exact hw), show A.length + 1 + i + 1 = A.length + 1 + (i + 1) by omega]
      match m, hm with
      | 0, hm => omega
      | m + 1, hm => exact sp_snd m (i + 1) true (by omega)
theorem scan_snd : ∀ (m i : Nat), B.length - i ≤ m → i ≤ B.length → scan (A ++ 32 :: B) (A.length + 1 + i) = scan B i
  | m, i, hm, hi => by
    by_cases hlt : i < B.length
    · have hL : A.length + 1 + i < (A ++ 32 :: B).length := by simp; omega
      cases hw : whiB (at' B i)
      · have hn := nxt_le hlt
        rw [scan_tok hlt hw (hb.opn i), scan_tok hL (by rw [at_snd]; exact hw) ((ha.app hb).opn _), nxt_snd ha hb hlt]
        unfold shift
        simp only
        match m, hm with
        | 0, hm => omega
        | m + 1, hm =>
          rw [scan_snd m _ (by omega) hn.2]; rfl
      · have hg := sp_gt (b := false) (k := i) (l := B) (.inl hw)
        have hl := sp_le B i false hi
        rw [scan_gap hlt, scan_gap hL, sp_snd ha hb _ i false (Nat.le_refl _)]
        simp only
        match m, hm with
        | 0, hm => omega
        | m + 1, hm => rw [scan_snd m _ (by omega) hl.2]
    · rw [scan_end hlt, scan_end (by simp; omega)]
/-- from the white space between on -/
theorem scan_between : scan (A ++ 32 :: B) A.length = (1, ⟨#[]⟩, 0) :: scan B (gapE B) := by
  have hw : whiB (at' (A ++ 32 :: B) A.length) = true := by rw [at_mid]; rfl
  have hs := sp_snd ha hb _ 0 true (Nat.le_refl _)
  have hs2 : sp (A ++ 32 :: B) A.length false = (A.length + 1 + gapE B, true) := by
    rw [sp_white hw, show A.length + 1 = A.length + 1 + 0 from rfl, hs, ← sp_free _ B 0 false (Nat.le_refl _), sp_true _ B 0 (Nat.le_refl _) (Nat.zero_le _)]
    rfl
  rw [scan_gap (by simp), hs2]
  simp only
  rw [scan_snd ha hb _ (gapE B) (Nat.le_refl _) (sp_le B 0 false (Nat.zero_le _)).2]
  rfl
theorem sp_fst : ∀ (m k : Nat) (b : Bool), A.length - k ≤ m → k ≤ A.length → (sp A k b).1 < A.length → sp (A ++ 32 :: B) k b = sp A k b
  | m, k, b, hm, hk, he => by
    cases hw : whiB (at' A k)
    · rw [sp_no hw (ha.opn k)] at he ⊢
      exact sp_no (by rw [at_fst he]; exact hw) ((ha.app hb).opn _)
    · have hlt := whi_lt hw
      rw [sp_white hw] at he ⊢
      rw [sp_white (by rw [at_fst hlt]; exact hw)]
      match m, hm with
      | 0, hm => omega
      | m + 1, hm => exact sp_fst m (k + 1) true (by omega) (by omega) he
omit hb in
/-- white space up to the end of the first sheet -/
theorem sp_all : ∀ (m k : Nat) (b : Bool), A.length - k ≤ m → k ≤ A.length → (sp A k b).1 = A.length → sp (A ++ 32 :: B) k b = sp (A ++ 32 :: B) A.length (sp A k b).2
  | m, k, b, hm, hk, he => by
    cases hw : whiB (at' A k)
    · rw [sp_no hw (ha.opn k)] at he ⊢
      have : k = A.length := he
      rw [this]
    · have hlt := whi_lt hw
      rw [sp_white hw] at he ⊢
      rw [sp_white (by rw [at_fst hlt]; exact hw)]
      match m, hm with
      | 0, hm => omega
      | m + 1, hm => exact sp_all m (k + 1) true (by omega) (by omega) he
theorem scan_fst : ∀ (m k : Nat), A.length - k ≤ m → k ≤ A.length → scan (A ++ 32 :: B) k = endS (scan A k) ++ scan B (gapE B)
  | m, k, hm, hk => by
    by_cases hlt : k < A.length
    · have hL : k < (A ++ 32 :: B).length := by simp; omega
      cases hw : whiB (at' A k)
      · have hn := nxt_le hlt
        have hok := nxt_ok (l := A) (k := k)
        rw [scan_tok hlt hw (ha.opn k), scan_tok hL (by rw [at_fst hlt]; exact hw) ((ha.app hb).opn _), nxt_two ha hb hlt]
        match m, hm with
        | 0, hm => omega
        | m + 1, hm =>
          rw [scan_fst m _ (by omega) hn.2, endS_tok (show (tokOf (nxt A k)).1 ≠ 1 from hok.2.1)]; rfl
      · have hg := sp_gt (b := false) (k := k) (l := A) (.inl hw)
        have hl := sp_le A k false hk
        have hb2 : (sp A k false).2 = true := by rw [sp_white hw]; exact sp_true _ A _ (Nat.le_refl _) (by omega)
        by_cases hj : (sp A k false).1 < A.length
        · have hs := sp_fst ha hb _ k false (Nat.le_refl _) hk hj
          have hst := sp_stop A _ k false (Nat.le_refl _) hk
          have hne : scan A (sp A k false).1 ≠ [] := by rw [scan_tok hj hst.1 hst.2]; simp
          rw [scan_gap hlt, scan_gap hL, hs, hb2]
          match m, hm with
          | 0, hm => omega
          | m + 1, hm =>
            rw [scan_fst m _ (by omega) hl.2]
            rw [show spTok true = [(1, ⟨#[]⟩, 0)] from rfl, List.cons_append, List.nil_append, List.cons_append, List.nil_append, endS_more _ hne]; rfl
        · have he : (sp A k false).1 = A.length := by omega
          have hs := sp_all (B := B) ha _ k false (Nat.le_refl _) hk he
          rw [hb2] at hs
          have hw2 : whiB (at' (A ++ 32 :: B) A.length) = true := by rw [at_mid]; rfl
          have e1 : sp (A ++ 32 :: B) k false = sp (A ++ 32 :: B) A.length false := by rw [hs, sp_white hw2, sp_white (b := false) hw2]
          have h2 := scan_between ha hb
          rw [scan_gap (by simp)] at h2
          rw [scan_gap hlt, scan_gap hL, e1, h2, he, hb2, scan_end (l := A) (k := A.length) (by omega)]
          rfl
    · have : k = A.length := by omega
      subst this
      rw [scan_end hlt, scan_between ha hb]; rfl
end
/-- the second sheet's tokens, without a Space ahead -/
theorem scan_tail (B : List Int) : scan B (gapE B) = if hk (scan B 0) = 1 then (scan B 0).tail else scan B 0 := by
  by_cases h0 : 0 < B.length
  · have hg := scan_good B _ (gapE B) (Nat.le_refl _) (sp_le B 0 false (Nat.zero_le _)).2
    have ha := sp_again (l := B) (k := 0) false false (Nat.zero_le _)
    have hne : hk (scan B (gapE B)) ≠ 1 := fun e => by
      have := hg.2.2.1 e
      have ha' : sp B (gapE B) false = (gapE B, false) := ha
      rw [ha'] at this
      cases this
    have hs := scan_gap h0
    cases hb : (sp B 0 false).2
    · rw [hb] at hs
      have e : scan B 0 = scan B (gapE B) := hs
      rw [e, if_neg hne]
    · rw [hb] at hs
      have e : scan B 0 = (1, ⟨#[]⟩, 0) :: scan B (gapE B) := hs
      rw [e]; rfl
  · have hB : B = [] := List.eq_nil_of_length_eq_zero (by omega)
    subst hB
    have e : scan [] 0 = [] := scan_end (by simp)
    have e2 : scan [] (gapE []) = [] := scan_end (by simp)
    rw [e, e2]; rfl
theorem scan_parts {A B : List Int} (ha : Rst A) (hb : Rst B) : scan (A ++ 32 :: B) 0 = endS (scan A 0) ++ (if hk (scan B 0) = 1 then (scan B 0).tail else scan B 0) := by
  rw [← scan_tail, scan_fst ha hb _ 0 (Nat.le_refl _) (Nat.zero_le _)]
/-- the Space behind, as the law asks for it -/
def lastK (ts : List Tok) : Int := (ts.getD (ts.length - 1) (0, ⟨#[]⟩, 0)).1
theorem endS_is : ∀ (ts : List Tok), endS ts = if ts = [] ∨ lastK ts ≠ 1 then ts ++ [(1, ⟨#[]⟩, 0)] else ts
  | [] => rfl
  | [t] => by
    unfold endS
    by_cases h : t.1 = 1
    · rw [if_pos h, if_neg (by rintro (e | e); cases e; exact e h)]
    · rw [if_neg h, if_pos (.inr h)]; rfl
  | t :: u :: r => by
    have ih := endS_is (u :: r)
    have e : lastK (t :: u :: r) = lastK (u :: r) := by unfold lastK; simp
    rw [endS_more t (by simp), ih, e]
    by_cases h : lastK (u :: r) ≠ 1
    · rw [if_pos (.inr h), if_pos (.inr h)]; rfl
    · rw [if_neg (by rintro (x | x); cases x; exact h x), if_neg (by rintro (x | x); cases x; exact h x)]
end Tk
end Go.Proofs.YtppgklmliklkkaaDoor
