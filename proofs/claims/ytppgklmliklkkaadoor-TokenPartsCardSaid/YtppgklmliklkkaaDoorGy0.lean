/-
  Plain: what stands beside what among tokens, and which parts a kind has. No run of the program in this text.
-/
import Derived.Test.YtppgklmliklkkaaDoorGn
namespace Go.Proofs.YtppgklmliklkkaaDoor
namespace Tk
open Ru

/-- a kind whose text is a name or a character -/
def nmd (k : Int) : Bool := decide ((2 ≤ k ∧ k ≤ 5) ∨ k = 10 ∨ (11 ≤ k ∧ k ≤ 13))
/-- parts that a kind has not are empty -/
def TokOk (t : Tok) : Prop :=
  1 ≤ t.1 ∧ t.1 ≤ 16 ∧ (nmd t.1 = true → t.2.1.toList.isEmpty = false) ∧ (nmd t.1 = false → t.1 ≠ 6 → t.1 ≠ 7 → t.2.1 = ⟨#[]⟩) ∧ (t.1 < 8 ∨ 10 < t.1 → t.2.2 = 0)
def hk : List Tok → Int
  | [] => 0
  | t :: _ => t.1
def Adj : List Tok → Prop
  | [] => True
  | t :: r => (t.1 = 1 → hk r ≠ 1) ∧ (t.1 = 7 → hk r = 1) ∧ Adj r

theorem enc_pos (c : Int) : 0 < (Lib.encodeRuneZ c).length := by
  rcases (show (0 ≤ c ∧ c ≤ 127) ∨ (128 ≤ c ∧ c ≤ 2047) ∨ ((2048 ≤ c ∧ c < 55296) ∨ (57343 < c ∧ c ≤ 65535)) ∨ (65536 ≤ c ∧ c ≤ 1114111) ∨ (c < 0 ∨ (55296 ≤ c ∧ c ≤ 57343) ∨ 1114111 < c) by omega) with h | h | h | h | h
  · rw [Lib.encodeRuneZ_one h.1 h.2]; simp
  · rw [Lib.encodeRuneZ_two h.1 h.2]; simp
  · rw [Lib.encodeRuneZ_three h]; simp
  · rw [Lib.encodeRuneZ_four h.1 h.2]; simp
  · rw [Lib.encodeRuneZ_bad h]; simp
theorem str_pos {ds : List Int} (h : ds ≠ []) : (str ds).toList.isEmpty = false := by
  match ds, h with
  | c :: r, _ =>
    have h1 : (wr (c :: r)).length = (Lib.encodeRuneZ c).length + (wr r).length := by unfold wr; simp
    have h2 := enc_pos c
    have h3 : (str (c :: r)).toList.length = (wr (c :: r)).length := by
      unfold str
      rw [Lib.toList_data, ← Lib.size_eq, strOfNums_size]
    cases he : (str (c :: r)).toList with
    | nil => rw [he] at h3; simp at h3; omega
    | cons a b => rfl
theorem name_ne {l : List Int} {k : Nat} (h : inN l k = true) : (name l k).1 ≠ [] := by rw [name_yes h]; simp
theorem qF_kind : ∀ (f : Nat) (l : List Int) (e : Int) (k : Nat), (qF f l e k).1 = 6 ∨ ((qF f l e k).1 = 7 ∧ (qF f l e k).2.2 < l.length ∧ g l (qF f l e k).2.2 = 10)
  | 0, _, _, _ => .inl rfl
  | f + 1, l, e, k => by
    unfold qF
    split
    · exact .inl rfl
    · rename_i h0
      have h1 : k < l.length := by
        by_cases c : k < l.length
        · exact c
        · exact absurd (fun hh => c hh.1) h0
      split
      · rename_i h10
        exact .inr ⟨rfl, h1, h10⟩
      · split
        · exact qF_kind f l e _
        · split
          · exact qF_kind f l e _
          · exact qF_kind f l e _
theorem sp_true : ∀ (m : Nat) (l : List Int) (k : Nat), l.length - k ≤ m → k ≤ l.length → (sp l k true).2 = true
  | m, l, k, hm, hk => by
    cases hw : whiB (at' l k)
    · cases ho : opn l k
      · rw [sp_no hw ho]
      · rw [sp_opn hw ho]
        have hc := cmt_le ho
        match m, hm with
        | 0, hm => omega
        | m + 1, hm => exact sp_true m l _ (by omega) hc.2
    · rw [sp_white hw]
      have := whi_lt hw
      match m, hm with
      | 0, hm => omega
      | m + 1, hm => exact sp_true m l _ (by omega) (by omega)
theorem sym_kind (c : Int) : symK c = 11 ∨ symK c = 12 ∨ symK c = 13 := by
  unfold symK
  split
  · exact .inr (.inl rfl)
  · split
    · exact .inr (.inr rfl)
    · exact .inl rfl

/-- a token of Next -/
def NxtOk (l : List Int) (r : Int × ByteArray × Int × Nat) : Prop := TokOk (tokOf r) ∧ r.1 ≠ 1 ∧ (r.1 = 7 → r.2.2.2 < l.length ∧ g l r.2.2.2 = 10)
theorem nxtOk_named {l : List Int} {k n : Int} {ds : List Int} {e : Nat} (hk : nmd k = true) (hd : ds ≠ []) (hn : k = 10 ∨ n = 0) : NxtOk l (k, str ds, n, e) := by
  have h := of_decide_eq_true hk
  refine ⟨⟨by simp only [tokOf]; omega, by simp only [tokOf]; omega, fun _ => str_pos hd, (fun h2 => by rw [show (tokOf (k, str ds, n, e)).1 = k from rfl, hk] at h2; cases h2), fun h2 => ?_⟩, ?_, ?_⟩
  · rcases hn with rfl | rfl
    · simp only [tokOf] at h2; omega
    · rfl
  · show k ≠ 1; omega
  · intro h7; have : k = 7 := h7; omega
theorem nxtOk_bare {l : List Int} {k n : Int} {e : Nat} (hk : k = 14 ∨ k = 15 ∨ k = 16 ∨ k = 8 ∨ k = 9) (hn : k = 8 ∨ k = 9 ∨ n = 0) : NxtOk l (k, ⟨#[]⟩, n, e) := by
  refine ⟨⟨by simp only [tokOf]; omega, by simp only [tokOf]; omega, fun h => ?_, fun _ _ _ => rfl, fun h2 => ?_⟩, ?_, ?_⟩
  · have := of_decide_eq_true h
    simp only [tokOf] at this
    omega
  · rcases hn with rfl | rfl | rfl
    · simp only [tokOf] at h2; omega
    · simp only [tokOf] at h2; omega
    · rfl
  · show k ≠ 1; omega
  · intro h7; have : k = 7 := h7; omega
theorem nxt_ok {l : List Int} {k : Nat} : NxtOk l (nxt l k) := by
  unfold nxt
  split
  · have hq : (qq l (g l k) (k + 1)).1 = 6 ∨ ((qq l (g l k) (k + 1)).1 = 7 ∧ (qq l (g l k) (k + 1)).2.2 < l.length ∧ g l (qq l (g l k) (k + 1)).2.2 = 10) := qF_kind l.length l (g l k) (k + 1)
    generalize qq l (g l k) (k + 1) = q at *
    obtain ⟨kd, ds, e⟩ := q
    simp only at hq ⊢
    refine ⟨⟨?_, ?_, fun h => ?_, fun h h6 h7 => ?_, fun _ => rfl⟩, ?_, ?_⟩
    · show 1 ≤ kd; omega
    · show kd ≤ 16; omega
    · have := of_decide_eq_true h; simp only [tokOf] at this; omega
    · have e6 : kd ≠ 6 := h6; have e7 : kd ≠ 7 := h7; omega
    · show kd ≠ 1; omega
    · intro h7
      have : kd = 7 := h7
      rcases hq with hq | hq
      · omega
      · exact hq.2
  · split
    · rename_i h
      have hin : inN l (k + 1) = true := by
        unfold inN
        rcases h.2 with h | h
        · rw [h, Bool.or_true]
        · rw [h, Bool.true_or]
      exact nxtOk_named rfl (name_ne hin) (.inr rfl)
    · split
      · split
        · rename_i h2
          exact nxtOk_named rfl (name_ne (begs_in h2)) (.inl rfl)
        · split
          · exact nxtOk_bare (by omega) (by omega)
          · exact nxtOk_bare (by omega) (by omega)
      · unfold rest
        split
        · rename_i h
          exact nxtOk_named rfl (name_ne (begs_in h.2)) (.inr rfl)
        · split
          · rename_i h
            split
            · exact nxtOk_named rfl (name_ne (begs_in h)) (.inr rfl)
            · exact nxtOk_named rfl (name_ne (begs_in h)) (.inr rfl)
          · split
            · exact nxtOk_bare (by omega) (by omega)
            · split
              · exact nxtOk_bare (by omega) (by omega)
              · split
                · exact nxtOk_bare (by omega) (by omega)
                · have hs := sym_kind (g l k)
                  exact nxtOk_named (by unfold nmd; apply decide_eq_true; omega) (by simp) (.inr rfl)

theorem scan_good (l : List Int) : ∀ (m k : Nat), l.length - k ≤ m → k ≤ l.length →
    Adj (scan l k) ∧ (∀ t ∈ scan l k, TokOk t) ∧ (hk (scan l k) = 1 → (sp l k false).2 = true) ∧ (k < l.length → (sp l k false).2 = true → hk (scan l k) = 1) ∧ (scan l k).length ≤ l.length - k
  | m, k, hm, hkl => by
    by_cases hlt : k < l.length
    · by_cases hgap : whiB (at' l k) = true ∨ opn l k = true
      · have hsl := sp_le l k false hkl
        have hsg := sp_gt (b := false) hgap
        match m, hm with
        | 0, hm => omega
        | m + 1, hm =>
          have ih := scan_good l m (sp l k false).1 (by omega) hsl.2
          have ha := sp_again false false hkl
          have hne : hk (scan l (sp l k false).1) ≠ 1 := fun e => by have := ih.2.2.1 e; rw [ha] at this; cases this
          rw [scan_gap hlt]
          cases hb : (sp l k false).2
          · rw [show spTok false = [] from rfl, List.nil_append]
            exact ⟨ih.1, ih.2.1, fun e => absurd e hne, (fun _ e => by cases e), by have := ih.2.2.2.2; omega⟩
          · rw [show spTok true = [(1, ⟨#[]⟩, 0)] from rfl, List.cons_append, List.nil_append]
            refine ⟨⟨fun _ => hne, fun h => absurd h (by decide), ih.1⟩, fun t ht => ?_, fun _ => rfl, fun _ _ => rfl, ?_⟩
            · rcases List.mem_cons.1 ht with rfl | ht
              · exact ⟨by decide, by decide, fun h => absurd h (by decide), fun _ _ _ => rfl, fun _ => rfl⟩
              · exact ih.2.1 t ht
            · have := ih.2.2.2.2
              rw [List.length_cons]; omega
      · have hw : whiB (at' l k) = false := by rw [Bool.eq_false_iff]; exact fun h => hgap (.inl h)
        have ho : opn l k = false := by rw [Bool.eq_false_iff]; exact fun h => hgap (.inr h)
        have hn := nxt_le hlt
        have hok := nxt_ok (l := l) (k := k)
        match m, hm with
        | 0, hm => omega
        | m + 1, hm =>
          have ih := scan_good l m (nxt l k).2.2.2 (by omega) hn.2
          rw [scan_tok hlt hw ho, sp_no hw ho]
          refine ⟨⟨fun h => absurd h hok.2.1, fun h => ?_, ih.1⟩, fun t ht => ?_, fun h => absurd h hok.2.1, (fun _ h => by cases h), ?_⟩
          · obtain ⟨h1, h2⟩ := hok.2.2 h
            have hwe : whiB (at' l (nxt l k).2.2.2) = true := by rw [at_in h1, h2]; rfl
            exact ih.2.2.2.1 h1 (by rw [sp_white hwe]; exact sp_true _ l _ (Nat.le_refl _) (by omega))
          · rcases List.mem_cons.1 ht with rfl | ht
            · exact hok.1
            · exact ih.2.1 t ht
          · have := ih.2.2.2.2
            rw [List.length_cons]; omega
    · rw [scan_end hlt]
      exact ⟨trivial, (fun t ht => by cases ht), fun h => absurd h (by decide), fun h => absurd h hlt, by simp⟩

/-- the kind of what stands behind, 0 if nothing does -/
def nk (ts : List Tok) (i : Nat) : Int := if i + 1 < ts.length then (ts.getD (i + 1) (0, ⟨#[]⟩, 0)).1 else 0
theorem adj_at : ∀ (ts : List Tok) (i : Nat), Adj ts → i < ts.length → ((ts.getD i (0, ⟨#[]⟩, 0)).1 = 1 → nk ts i ≠ 1) ∧ ((ts.getD i (0, ⟨#[]⟩, 0)).1 = 7 → nk ts i = 1)
  | [], i, _, h => by simp at h
  | t :: r, 0, ha, _ => by
    have e : nk (t :: r) 0 = hk r := by
      cases r with
      | nil => rfl
      | cons u s => rfl
    rw [e]
    exact ⟨ha.1, ha.2.1⟩
  | t :: r, i + 1, ha, h => by
    have ih := adj_at r i ha.2.2 (by simpa using h)
    have e : nk (t :: r) (i + 1) = nk r i := by
      unfold nk
      simp only [List.length_cons, List.getD_cons_succ]
      by_cases c : i + 1 < r.length
      · rw [if_pos c, if_pos (by omega)]
      · rw [if_neg c, if_neg (by omega)]
    rw [e]
    exact ih
end Tk
end Go.Proofs.YtppgklmliklkkaaDoor
