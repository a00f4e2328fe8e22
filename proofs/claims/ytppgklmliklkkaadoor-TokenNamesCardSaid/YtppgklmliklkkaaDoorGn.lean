/-
  Plain words of tokens: what stands at a place of characters. No run of the program in this text.
-/
import Derived.Test.YtppgklmliklkkaaDoorGh
import Derived.Laws.BytesArg
import Derived.Laws.IdiomStrings
import Derived.Test.YtppgklmliklkkaaDoorGd
import Derived.Lib.Strings
import Derived.Laws.NewBlocks
import Derived.OneCell
namespace Go.Proofs.YtppgklmliklkkaaDoor
namespace Tk
open Ru

/-- the character at a place; -1: there is none -/
def at' (l : List Int) (k : Nat) : Int := if k < l.length then g l k else -1
/-- an escape stands there -/
def esc (l : List Int) (k : Nat) : Bool := decide (at' l k = 92 ∧ 0 ≤ at' l (k + 1) ∧ at' l (k + 1) ≠ 10)
/-- hex digits, f at most, from j on -/
def hexR : Nat → List Int → Nat → Int → Int × Nat
  | 0, _, j, n => (n, j)
  | f + 1, l, j, n => if 0 ≤ hexV (at' l j) then hexR f l (j + 1) (n * 16 + hexV (at' l j)) else (n, j)
/-- what the escape there means, and where it ends -/
def meant (l : List Int) (k : Nat) : Int × Nat :=
  if (hexR 6 l (k + 1) 0).2 = k + 1 then (g l (k + 1), k + 2)
  else (if (hexR 6 l (k + 1) 0).1 = 0 ∨ isB (hexR 6 l (k + 1) 0).1 = false then 65533 else (hexR 6 l (k + 1) 0).1,
    if whiB (at' l (hexR 6 l (k + 1) 0).2) = true then (hexR 6 l (k + 1) 0).2 + 1 else (hexR 6 l (k + 1) 0).2)
def may (l : List Int) (k : Nat) : Bool := begB (at' l k) || esc l k
/-- a name begins there -/
def begs (l : List Int) (k : Nat) : Bool := may l k || (decide (at' l k = 45) && (may l (k + 1) || decide (at' l (k + 1) = 45)))
/-- it goes on within a name -/
def inN (l : List Int) (k : Nat) : Bool := esc l k || witB (at' l k)
/-- one character of a name, and where the next one is -/
def oneN (l : List Int) (k : Nat) : Int × Nat := if at' l k = 92 then meant l k else (at' l k, k + 1)
def nameF : Nat → List Int → Nat → List Int × Nat
  | 0, _, k => ([], k)
  | f + 1, l, k => if inN l k = true then ((oneN l k).1 :: (nameF f l (oneN l k).2).1, (nameF f l (oneN l k).2).2) else ([], k)
/-- the name there, and where it ends -/
def name (l : List Int) (k : Nat) : List Int × Nat := nameF l.length l k

/-! ### bounds -/
theorem at_lt {l : List Int} {k : Nat} (h : at' l k ≠ -1) : k < l.length := by
  unfold at' at h
  by_cases c : k < l.length
  · exact c
  · rw [if_neg c] at h; exact absurd rfl h
theorem at_in {l : List Int} {k : Nat} (h : k < l.length) : at' l k = g l k := by unfold at'; rw [if_pos h]
theorem at_out {l : List Int} {k : Nat} (h : ¬ k < l.length) : at' l k = -1 := by unfold at'; rw [if_neg h]
theorem hexV_out : hexV (-1) = -1 := by decide
theorem hexV_le (c : Int) : -1 ≤ hexV c ∧ hexV c ≤ 15 := by unfold hexV; omega
theorem hexR_le : ∀ (f : Nat) (l : List Int) (j : Nat) (n : Int), j ≤ (hexR f l j n).2 ∧ (hexR f l j n).2 ≤ j + f ∧ (j ≤ l.length → (hexR f l j n).2 ≤ l.length)
  | 0, _, _, _ => by unfold hexR; simp
  | f + 1, l, j, n => by
    unfold hexR
    by_cases c : 0 ≤ hexV (at' l j)
    · rw [if_pos c]
      have ih := hexR_le f l (j + 1) (n * 16 + hexV (at' l j))
      have hj : j < l.length := at_lt (fun e => by rw [e, hexV_out] at c; omega)
      omega
    · rw [if_neg c]; simp
theorem hexR_val : ∀ (f : Nat) (l : List Int) (j : Nat) (n B : Int), 0 ≤ n → n < B → 0 ≤ (hexR f l j n).1 ∧ (hexR f l j n).1 < B * 16 ^ f
  | 0, _, _, n, B, h0, h1 => by unfold hexR; simp; omega
  | f + 1, l, j, n, B, h0, h1 => by
    unfold hexR
    have hp : (16 : Int) ^ (f + 1) = 16 * 16 ^ f := by rw [Int.pow_succ, Int.mul_comm]
    have hq : B * 16 ^ (f + 1) = (B * 16) * 16 ^ f := by rw [hp, Int.mul_assoc]
    rw [hq]
    by_cases c : 0 ≤ hexV (at' l j)
    · rw [if_pos c]
      have hh := hexV_le (at' l j)
      exact hexR_val f l (j + 1) _ (B * 16) (by omega) (by omega)
    · rw [if_neg c]
      have hpos : (1 : Int) ≤ 16 ^ f := Int.pow_pos (by decide)
      refine ⟨h0, ?_⟩
      have : (B * 16) * 1 ≤ (B * 16) * 16 ^ f := Int.mul_le_mul_of_nonneg_left hpos (by omega)
      show n < _
      omega
theorem esc_lt {l : List Int} {k : Nat} (h : esc l k = true) : k + 1 < l.length ∧ at' l k = 92 ∧ at' l (k + 1) ≠ 10 := by
  unfold esc at h
  have := of_decide_eq_true h
  exact ⟨at_lt (fun e => by omega), this.1, this.2.2⟩
theorem meant_le {l : List Int} {k : Nat} (h : k + 1 < l.length) : k + 2 ≤ (meant l k).2 ∧ (meant l k).2 ≤ l.length := by
  have hr := hexR_le 6 l (k + 1) 0
  unfold meant
  split
  · simp only; omega
  · rename_i h1
    simp only
    split
    · rename_i h2
      have hw : (hexR 6 l (k + 1) 0).2 < l.length := at_lt (fun e => by rw [e] at h2; revert h2; decide)
      omega
    · omega
theorem begB_out : begB (-1) = false := by decide
theorem witB_out : witB (-1) = false := by decide
theorem inN_lt {l : List Int} {k : Nat} (h : inN l k = true) : k < l.length := by
  unfold inN at h
  rw [Bool.or_eq_true] at h
  rcases h with h | h
  · have := (esc_lt h).1; omega
  · exact at_lt (fun e => by rw [e, witB_out] at h; cases h)
/-- an escape, or a character that is none of one -/
theorem inN_esc {l : List Int} {k : Nat} (h : inN l k = true) (h92 : at' l k = 92) : esc l k = true := by
  unfold inN at h
  rw [Bool.or_eq_true] at h
  rcases h with h | h
  · exact h
  · rw [h92, show witB 92 = false by decide] at h; cases h
theorem oneN_le {l : List Int} {k : Nat} (h : inN l k = true) : k + 1 ≤ (oneN l k).2 ∧ (oneN l k).2 ≤ l.length := by
  have hk := inN_lt h
  unfold oneN
  split
  · rename_i h92
    have := meant_le (esc_lt (inN_esc h h92)).1
    omega
  · simp only; omega
theorem nameF_more : ∀ (f : Nat) (l : List Int) (k : Nat), l.length - k ≤ f → nameF f l k = nameF (l.length - k) l k
  | 0, l, k, h => by rw [show l.length - k = 0 by omega]
  | f + 1, l, k, h => by
    by_cases hi : inN l k = true
    · have hk := inN_lt hi
      have ho := oneN_le hi
      obtain ⟨m, hm⟩ : ∃ m, l.length - k = m + 1 := ⟨l.length - k - 1, by omega⟩
      rw [hm]
      unfold nameF
      rw [if_pos hi, if_pos hi, nameF_more f _ _ (by omega), nameF_more m _ _ (by omega)]
    · obtain ⟨m, hm⟩ : ∃ m, l.length - k = m := ⟨_, rfl⟩
      rw [hm]
      cases m with
      | zero => unfold nameF; rw [if_neg hi]
      | succ m => unfold nameF; rw [if_neg hi, if_neg hi]
termination_by f => f
theorem name_yes {l : List Int} {k : Nat} (h : inN l k = true) : name l k = ((oneN l k).1 :: (name l (oneN l k).2).1, (name l (oneN l k).2).2) := by
  have hk := inN_lt h
  have ho := oneN_le h
  obtain ⟨m, hm⟩ : ∃ m, l.length = m + 1 := ⟨l.length - 1, by omega⟩
  unfold name
  rw [nameF_more l.length l (oneN l k).2 (by omega), ← nameF_more m l (oneN l k).2 (by omega)]
  rw [hm]
  conv => lhs; unfold nameF
  rw [if_pos h]
theorem name_no {l : List Int} {k : Nat} (h : inN l k = false) : name l k = ([], k) := by
  unfold name
  cases hl : l.length with
  | zero => unfold nameF; rfl
  | succ m => unfold nameF; rw [if_neg (by rw [h]; decide)]
end Tk
end Go.Proofs.YtppgklmliklkkaaDoor

/-
  Plain words of tokens: white space and comments, texts in quotes. No run of the program in this text.
-/
namespace Go.Proofs.YtppgklmliklkkaaDoor
namespace Tk
open Ru

/-! ### white space and comments -/
def cmtF : Nat → List Int → Nat → Nat
  | 0, _, j => j
  | f + 1, l, j => if j < l.length ∧ ¬ (g l j = 42 ∧ at' l (j + 1) = 47) then cmtF f l (j + 1) else j
/-- where a comment's end stands, from j on, or the end of all -/
def cmtE (l : List Int) (j : Nat) : Nat := cmtF l.length l j
/-- where the comment ends that begins at k -/
def cmt (l : List Int) (k : Nat) : Nat := min (cmtE l (k + 2) + 2) l.length
def opn (l : List Int) (k : Nat) : Bool := decide (at' l k = 47 ∧ at' l (k + 1) = 42)
def spF : Nat → List Int → Nat → Bool → Nat × Bool
  | 0, _, k, b => (k, b)
  | f + 1, l, k, b => if whiB (at' l k) = true then spF f l (k + 1) true else if opn l k = true then spF f l (cmt l k) b else (k, b)
/-- where white characters and comments end, and whether one is white (or one was) -/
def sp (l : List Int) (k : Nat) (b : Bool) : Nat × Bool := spF l.length l k b

theorem whiB_out : whiB (-1) = false := by decide
theorem whi_lt {l : List Int} {k : Nat} (h : whiB (at' l k) = true) : k < l.length := at_lt (fun e => by rw [e, whiB_out] at h; cases h)
theorem opn_lt {l : List Int} {k : Nat} (h : opn l k = true) : k + 1 < l.length := by
  unfold opn at h
  have := of_decide_eq_true h
  exact at_lt (fun e => by omega)
theorem cmtF_le : ∀ (f : Nat) (l : List Int) (j : Nat), j ≤ cmtF f l j ∧ (j ≤ l.length → cmtF f l j ≤ l.length)
  | 0, _, _ => by unfold cmtF; simp
  | f + 1, l, j => by
    unfold cmtF
    split
    · have := cmtF_le f l (j + 1); omega
    · simp
theorem cmtF_more : ∀ (f : Nat) (l : List Int) (j : Nat), l.length - j ≤ f → cmtF f l j = cmtF (l.length - j) l j
  | 0, l, k, h => by rw [show l.length - k = 0 by omega]
  | f + 1, l, k, h => by
    by_cases hi : k < l.length ∧ ¬ (g l k = 42 ∧ at' l (k + 1) = 47)
    · obtain ⟨m, hm⟩ : ∃ m, l.length - k = m + 1 := ⟨l.length - k - 1, by omega⟩
      rw [hm]
      unfold cmtF
      rw [if_pos hi, if_pos hi, cmtF_more f _ _ (by omega), cmtF_more m _ _ (by omega)]
    · obtain ⟨m, hm⟩ : ∃ m, l.length - k = m := ⟨_, rfl⟩
      rw [hm]
      cases m with
      | zero => unfold cmtF; rw [if_neg hi]
      | succ m => unfold cmtF; rw [if_neg hi, if_neg hi]
termination_by f => f
theorem cmtE_yes {l : List Int} {j : Nat} (h : j < l.length ∧ ¬ (g l j = 42 ∧ at' l (j + 1) = 47)) : cmtE l j = cmtE l (j + 1) := by
  obtain ⟨m, hm⟩ : ∃ m, l.length = m + 1 := ⟨l.length - 1, by omega⟩
  unfold cmtE
  rw [cmtF_more l.length l (j + 1) (by omega), ← cmtF_more m l (j + 1) (by omega), hm]
  conv => lhs; unfold cmtF
  rw [if_pos h]
theorem cmtE_no {l : List Int} {j : Nat} (h : ¬ (j < l.length ∧ ¬ (g l j = 42 ∧ at' l (j + 1) = 47))) : cmtE l j = j := by
  unfold cmtE
  cases hl : l.length with
  | zero => rfl
  | succ m => conv => lhs; unfold cmtF
              rw [if_neg h]
theorem cmt_le {l : List Int} {k : Nat} (h : opn l k = true) : k + 2 ≤ cmt l k ∧ cmt l k ≤ l.length := by
  have h1 := opn_lt h
  have h2 := cmtF_le l.length l (k + 2)
  unfold cmt cmtE
  omega
theorem spF_more : ∀ (f : Nat) (l : List Int) (k : Nat) (b : Bool), l.length - k ≤ f → spF f l k b = spF (l.length - k) l k b
  | 0, l, k, b, h => by rw [show l.length - k = 0 by omega]
  | f + 1, l, k, b, h => by
    obtain ⟨m, hm⟩ : ∃ m, l.length - k = m := ⟨_, rfl⟩
    rw [hm]
    by_cases hw : whiB (at' l k) = true
    · have hk := whi_lt hw
      cases m with
      | zero => omega
      | succ m =>
        unfold spF
        rw [if_pos hw, if_pos hw, spF_more f _ _ _ (by omega), spF_more m _ _ _ (by omega)]
    · by_cases ho : opn l k = true
      · have hk := opn_lt ho
        have hc := cmt_le ho
        cases m with
        | zero => omega
        | succ m =>
          unfold spF
          rw [if_neg hw, if_pos ho, if_neg hw, if_pos ho, spF_more f _ _ _ (by omega), spF_more m _ _ _ (by omega)]
      · cases m with
        | zero => unfold spF; rw [if_neg hw, if_neg ho]
        | succ m => unfold spF; rw [if_neg hw, if_neg ho, if_neg hw, if_neg ho]
termination_by f => f
theorem sp_white {l : List Int} {k : Nat} {b : Bool} (h : whiB (at' l k) = true) : sp l k b = sp l (k + 1) true := by
  have hk := whi_lt h
  obtain ⟨m, hm⟩ : ∃ m, l.length = m + 1 := ⟨l.length - 1, by omega⟩
  unfold sp
  rw [spF_more l.length l (k + 1) true (by omega), ← spF_more m l (k + 1) true (by omega), hm]
  conv => lhs; unfold spF
  rw [if_pos h]
theorem sp_opn {l : List Int} {k : Nat} {b : Bool} (h : whiB (at' l k) = false) (ho : opn l k = true) : sp l k b = sp l (cmt l k) b := by
  have hk := opn_lt ho
  have hc := cmt_le ho
  obtain ⟨m, hm⟩ : ∃ m, l.length = m + 1 := ⟨l.length - 1, by omega⟩
  unfold sp
  rw [spF_more l.length l (cmt l k) b (by omega), ← spF_more m l (cmt l k) b (by omega), hm]
  conv => lhs; unfold spF
  rw [if_neg (by rw [h]; decide), if_pos ho]
theorem sp_no {l : List Int} {k : Nat} {b : Bool} (h : whiB (at' l k) = false) (ho : opn l k = false) : sp l k b = (k, b) := by
  unfold sp
  cases hl : l.length with
  | zero => rfl
  | succ m => conv => lhs; unfold spF
              rw [if_neg (by rw [h]; decide), if_neg (by rw [ho]; decide)]
theorem spF_le : ∀ (f : Nat) (l : List Int) (k : Nat) (b : Bool), k ≤ (spF f l k b).1 ∧ (k ≤ l.length → (spF f l k b).1 ≤ l.length)
  | 0, _, _, _ => by unfold spF; simp
  | f + 1, l, k, b => by
    unfold spF
    split
    · rename_i hw
      have := whi_lt hw
      have := spF_le f l (k + 1) true
      omega
    · split
      · rename_i ho
        have := cmt_le ho
        have := spF_le f l (cmt l k) b
        omega
      · simp
theorem sp_le (l : List Int) (k : Nat) (b : Bool) (h : k ≤ l.length) : k ≤ (sp l k b).1 ∧ (sp l k b).1 ≤ l.length := by
  have := spF_le l.length l k b
  unfold sp
  exact ⟨this.1, this.2 h⟩

/-! ### texts in quotes -/
def push (c : Int) (r : Int × List Int × Nat) : Int × List Int × Nat := (r.1, c :: r.2.1, r.2.2)
def qF : Nat → List Int → Int → Nat → Int × List Int × Nat
  | 0, l, _, k => (6, [], min (k + 1) l.length)
  | f + 1, l, e, k =>
    if ¬ (k < l.length ∧ g l k ≠ e) then (6, [], min (k + 1) l.length)
    else if g l k = 10 then (7, [], k)
    else if esc l k = true then push (meant l k).1 (qF f l e (meant l k).2)
    else if g l k = 92 then qF f l e (k + 2)
    else push (g l k) (qF f l e (k + 1))
/-- the text up to e, from k on: its kind, its characters, and where it ends -/
def qq (l : List Int) (e : Int) (k : Nat) : Int × List Int × Nat := qF l.length l e k
theorem qF_more : ∀ (f : Nat) (l : List Int) (e : Int) (k : Nat), l.length - k ≤ f → qF f l e k = qF (l.length - k) l e k
  | 0, l, e, k, h => by rw [show l.length - k = 0 by omega]
  | f + 1, l, e, k, h => by
    obtain ⟨m, hm⟩ : ∃ m, l.length - k = m := ⟨_, rfl⟩
    rw [hm]
    by_cases h0 : ¬ (k < l.length ∧ g l k ≠ e)
    · cases m with
      | zero => unfold qF; rw [if_pos h0]
      | succ m => unfold qF; rw [if_pos h0, if_pos h0]
    · cases m with
      | zero => omega
      | succ m =>
        unfold qF
        rw [if_neg h0, if_neg h0]
        by_cases h1 : g l k = 10
        · rw [if_pos h1, if_pos h1]
        · rw [if_neg h1, if_neg h1]
          by_cases h2 : esc l k = true
          · have hl := meant_le (esc_lt h2).1
            rw [if_pos h2, if_pos h2, qF_more f _ _ _ (by omega), qF_more m _ _ _ (by omega)]
          · rw [if_neg h2, if_neg h2]
            by_cases h3 : g l k = 92
            · rw [if_pos h3, if_pos h3, qF_more f _ _ _ (by omega), qF_more m _ _ _ (by omega)]
            · rw [if_neg h3, if_neg h3, qF_more f _ _ _ (by omega), qF_more m _ _ _ (by omega)]
termination_by f => f
theorem qq_end {l : List Int} {e : Int} {k : Nat} (h : ¬ (k < l.length ∧ g l k ≠ e)) : qq l e k = (6, [], min (k + 1) l.length) := by
  unfold qq
  cases hl : l.length with
  | zero => conv => lhs; unfold qF
            rw [hl]
  | succ m => conv => lhs; unfold qF
              rw [if_pos h, hl]
theorem qq_step {l : List Int} {e : Int} {k : Nat} (h : k < l.length ∧ g l k ≠ e) : qq l e k =
    if g l k = 10 then (7, [], k)
    else if esc l k = true then push (meant l k).1 (qq l e (meant l k).2)
    else if g l k = 92 then qq l e (k + 2)
    else push (g l k) (qq l e (k + 1)) := by
  obtain ⟨m, hm⟩ : ∃ m, l.length = m + 1 := ⟨l.length - 1, by omega⟩
  have mo : ∀ j, k < j → qF l.length l e j = qF m l e j := fun j hj => by rw [qF_more l.length l e j (by omega), qF_more m l e j (by omega)]
  unfold qq
  by_cases h1 : g l k = 10
  · rw [if_pos h1, hm]; conv => lhs; unfold qF
    rw [if_neg (fun hh => hh h), if_pos h1]
  · rw [if_neg h1]
    by_cases h2 : esc l k = true
    · have hl := meant_le (esc_lt h2).1
      rw [if_pos h2, mo (meant l k).2 (by omega), hm]; conv => lhs; unfold qF
      rw [if_neg (fun hh => hh h), if_neg h1, if_pos h2]
    · rw [if_neg h2]
      by_cases h3 : g l k = 92
      · rw [if_pos h3, mo (k + 2) (by omega), hm]; conv => lhs; unfold qF
        rw [if_neg (fun hh => hh h), if_neg h1, if_neg h2, if_pos h3]
      · rw [if_neg h3, mo (k + 1) (by omega), hm]; conv => lhs; unfold qF
        rw [if_neg (fun hh => hh h), if_neg h1, if_neg h2, if_neg h3]
theorem qF_le : ∀ (f : Nat) (l : List Int) (e : Int) (k : Nat), k ≤ l.length → k ≤ (qF f l e k).2.2 ∧ (qF f l e k).2.2 ≤ l.length
  | 0, l, e, k, h => by unfold qF; simp only; omega
  | f + 1, l, e, k, h => by
    unfold qF
    split
    · simp only; omega
    · rename_i h0
      have hk : k < l.length := by
        by_cases c : k < l.length
        · exact c
        · exact absurd (fun hh => c hh.1) h0
      split
      · simp only; omega
      · split
        · rename_i h2
          have hl := meant_le (esc_lt h2).1
          have := qF_le f l e (meant l k).2 hl.2
          unfold push; simp only; omega
        · split
          · by_cases c : k + 2 ≤ l.length
            · have := qF_le f l e (k + 2) c; omega
            · have h3 : k + 1 = l.length := by omega
              cases f with
              | zero => unfold qF; simp only; omega
              | succ f => unfold qF; rw [if_pos (by omega)]; simp only; omega
          · have := qF_le f l e (k + 1) (by omega)
            unfold push; simp only; omega
end Tk
end Go.Proofs.YtppgklmliklkkaaDoor

/-
  Words for texts that are made. No run of the program in this text.
-/
namespace Go.Proofs.YtppgklmliklkkaaDoor
open Go.RowKit

namespace Tk
/-- characters as a text -/
def str (l : List Int) : ByteArray := strOfNums (Ru.wr l)
end Tk

theorem made_form {k : IntKind} {E : TypeId} {l : List Int} {w : World} {e : Ending} {w' : World} (h : Made k E l w e w') : ∃ (A : Option Addr) (cap : Nat), e = .returned (.slice A l.length cap) ∧ l.length ≤ cap ∧ Bs w' w'.heap.size k A l ∧ Below w.heap.size w w' := by
  obtain ⟨v, rfl, hown, hb⟩ := h
  rcases hown.2 with ⟨rfl, h0⟩ | ⟨x, cap, cur, rfl, _, _, hc, _⟩
  · exact ⟨none, 0, by rw [h0], by omega, fun hl => by omega, hb⟩
  · exact ⟨_, cap, rfl, hc, Bs.of_own hown, hb⟩
theorem own_bs {w : World} {B : Nat} {k : IntKind} {E : TypeId} {l : List Int} {v : Value} (h : w.ownsRow B E 1 v l.length (nums k l)) : ∃ A cap, v = .slice A l.length cap ∧ l.length ≤ cap ∧ Bs w w.heap.size k A l := by
  rcases h.2 with ⟨rfl, h0⟩ | ⟨x, cap, cur, rfl, _, _, hc, _⟩
  · exact ⟨none, 0, by rw [h0], by omega, fun hl => by omega⟩
  · exact ⟨_, cap, rfl, hc, Bs.of_own h⟩
theorem conv_bytes {w : World} {B : Nat} {A : Option Addr} {l : List Int} (c : Nat) (h : Bs w B .u8 A l) : (convert 22 9 (.slice A l.length c)).run Tryd.prog w = .ok (.string (strOfNums l)) w := by
  by_cases h0 : 0 < l.length
  · obtain ⟨b, off, rfl, _, hp⟩ := h h0
    exact run_convert_bytes_arg w 22 5 Tryd.underlying22 Tryd.underlying5 b off l.length c l rfl hp 9 Tryd.underlying9
  · have hl : l = [] := List.eq_nil_of_length_eq_zero (by omega)
    subst hl
    cases A with
    | none => exact run_convert_bytes_nil w 22 5 Tryd.underlying22 Tryd.underlying5 0 c 9 Tryd.underlying9
    | some a => exact run_convert_bytes_back w 22 9 5 a c [] Tryd.underlying22 Tryd.underlying5 Tryd.underlying9 (fun j hj => by cases hj)
end Go.Proofs.YtppgklmliklkkaaDoor

/-
  Plain words of tokens: characters below 128. No run of the program in this text.
-/
namespace Go.Proofs.YtppgklmliklkkaaDoor
open Go.RowKit

namespace Tk
open Ru
/-- characters below 128 from there on -/
def ascL (l : List Int) (k : Nat) : List Int := (l.drop k).takeWhile fun c => decide (c < 128)
theorem ascL_yes {l : List Int} {k : Nat} (h : k < l.length) (h2 : g l k < 128) : ascL l k = g l k :: ascL l (k + 1) := by
  unfold ascL
  rw [List.drop_eq_getElem_cons h, List.takeWhile_cons, ← g_eq h, decide_eq_true h2]; rfl
theorem ascL_no {l : List Int} {k : Nat} (h : ¬ (k < l.length ∧ g l k < 128)) : ascL l k = [] := by
  unfold ascL
  by_cases c : k < l.length
  · rw [List.drop_eq_getElem_cons c, List.takeWhile_cons, ← g_eq c, decide_eq_false (fun h2 => h ⟨c, h2⟩)]; rfl
  · rw [List.drop_eq_nil_of_le (by omega)]; rfl
theorem ascL_len (l : List Int) (k : Nat) : (ascL l k).length ≤ l.length - k := by
  unfold ascL
  have h := (List.takeWhile_sublist (l := l.drop k) (fun c => decide (c < 128))).length_le
  rw [List.length_drop] at h
  exact h
def u8 (c : Int) : UInt8 := UInt8.ofNat c.toNat
/-- a text spells characters below 128 -/
def Sp (t : ByteArray) (ds : List Int) : Prop := t.data.toList = ds.map u8
theorem sp_nil : Sp ⟨#[]⟩ [] := rfl
theorem sp_next {t : ByteArray} {ds : List Int} {x : Int} (h : Sp t ds) : Sp (t ++ ⟨#[UInt8.ofNat x.toNat]⟩) (ds ++ [x]) := by
  unfold Sp at *
  rw [ByteArray.data_append, Array.toList_append, h, List.map_append]; rfl
theorem sp_str {t : ByteArray} {ds : List Int} (h : Sp t ds) : t = strOfNums ds := by
  unfold Sp at h
  have : t = ⟨t.data⟩ := rfl
  rw [this]
  unfold strOfNums
  congr 1
  rw [← Array.toArray_toList (xs := t.data), h]
  rfl
theorem sp_len {t : ByteArray} {ds : List Int} (h : Sp t ds) : t.size = ds.length := by rw [sp_str h, strOfNums_size]
end Tk
end Go.Proofs.YtppgklmliklkkaaDoor

/-
  Plain words of tokens: the next token. No run of the program in this text.
-/
namespace Go.Proofs.YtppgklmliklkkaaDoor
open Go.RowKit

namespace Tk
open Ru
/-- the decimal there -/
def numL (l : List Int) (k : Nat) : List UInt8 := (strOfNums (ascL l k)).data.toList
def nlen (l : List Int) (k : Nat) : Nat := Fx.len (numL l k)
def pv (t : List UInt8) : Int := if Fx.isDec t = true then Fx.num t else 0
def nval (l : List Int) (k : Nat) : Int := pv ((numL l k).take (nlen l k))
def numB (c : Int) : Bool := decide (c = 43 ∨ c = 45 ∨ c = 46 ∨ (48 ≤ c ∧ c ≤ 57))
def symK (c : Int) : Int := if c = 40 ∨ c = 91 ∨ c = 123 then 12 else if c = 41 ∨ c = 93 ∨ c = 125 then 13 else 11
def rest (l : List Int) (k : Nat) : Int × ByteArray × Int × Nat :=
  if g l k = 64 ∧ begs l (k + 1) = true then (4, str (name l (k + 1)).1, 0, (name l (k + 1)).2)
  else if begs l k = true then (if at' l (name l k).2 = 40 then (3, str (name l k).1, 0, (name l k).2 + 1) else (2, str (name l k).1, 0, (name l k).2))
  else if g l k = 58 then (14, ⟨#[]⟩, 0, k + 1)
  else if g l k = 59 then (15, ⟨#[]⟩, 0, k + 1)
  else if g l k = 44 then (16, ⟨#[]⟩, 0, k + 1)
  else (symK (g l k), str [g l k], 0, k + 1)
/-- the token there: its kind, its text, its number, and where it ends -/
def nxt (l : List Int) (k : Nat) : Int × ByteArray × Int × Nat :=
  if g l k = 34 ∨ g l k = 39 then ((qq l (g l k) (k + 1)).1, str (qq l (g l k) (k + 1)).2.1, 0, (qq l (g l k) (k + 1)).2.2)
  else if g l k = 35 ∧ (witB (at' l (k + 1)) = true ∨ esc l (k + 1) = true) then (5, str (name l (k + 1)).1, 0, (name l (k + 1)).2)
  else if numB (g l k) = true ∧ 0 < nlen l k then
    (if begs l (k + nlen l k) = true then (10, str (name l (k + nlen l k)).1, nval l k, (name l (k + nlen l k)).2)
     else if at' l (k + nlen l k) = 37 then (9, ⟨#[]⟩, nval l k, k + nlen l k + 1) else (8, ⟨#[]⟩, nval l k, k + nlen l k))
  else rest l k
theorem numL_len (l : List Int) (k : Nat) : (numL l k).length ≤ l.length - k := by
  have h := ascL_len l k
  have h2 : (numL l k).length = (ascL l k).length := by
    unfold numL
    rw [← Lib.size_eq, strOfNums_size]
  omega
theorem nlen_le (l : List Int) (k : Nat) (h : k ≤ l.length) : k + nlen l k ≤ l.length := by
  have h1 := Fx.len_hi (numL l k)
  have h2 := numL_len l k
  unfold nlen
  omega
theorem name_le (l : List Int) : ∀ (m k : Nat), l.length - k ≤ m → k ≤ l.length → k ≤ (name l k).2 ∧ (name l k).2 ≤ l.length
  | m, k, hm, hk => by
    cases hI : inN l k
    · rw [name_no hI]; exact ⟨Nat.le_refl _, hk⟩
    · rw [name_yes hI]
      have ho := oneN_le hI
      have hlt := inN_lt hI
      match m, hm with
      | 0, hm => omega
      | m + 1, hm =>
        have ih := name_le l m (oneN l k).2 (by omega) ho.2
        simp only
        omega
theorem begs_num {l : List Int} {k : Nat} (hk : k < l.length) (h : numB (g l k) = true) (h2 : begs l k = true) : g l k = 45 := by
  unfold begs may esc at h2
  rw [at_in hk] at h2
  unfold numB at h
  unfold begB at h2
  have h3 := of_decide_eq_true h
  simp only [Bool.or_eq_true, Bool.and_eq_true, decide_eq_true_eq] at h2
  omega
theorem begs_not {l : List Int} {k : Nat} (hk : k < l.length) (h : g l k = 35 ∨ g l k = 58 ∨ g l k = 59 ∨ g l k = 44 ∨ g l k = 40 ∨ g l k = 91 ∨ g l k = 123 ∨ g l k = 41 ∨ g l k = 93 ∨ g l k = 125) : begs l k = false := by
  rw [Bool.eq_false_iff]
  intro h2
  unfold begs may esc at h2
  rw [at_in hk] at h2
  unfold begB at h2
  simp only [Bool.or_eq_true, Bool.and_eq_true, decide_eq_true_eq] at h2
  omega
theorem numB_no {c : Int} (h : numB c = false) : c ≠ 43 ∧ c ≠ 45 ∧ c ≠ 46 ∧ (c < 48 ∨ 57 < c) := by
  have := of_decide_eq_false h
  omega
/-- the walk comes to what stands past the numbers -/
def Past (l : List Int) (k : Nat) : Prop := g l k ≠ 34 ∧ g l k ≠ 39 ∧ (g l k = 35 → witB (at' l (k + 1)) = false ∧ esc l (k + 1) = false) ∧ (numB (g l k) = true → nlen l k = 0)
theorem nxt_past {l : List Int} {k : Nat} (h : Past l k) : nxt l k = rest l k := by
  obtain ⟨h1, h2, h3, h4⟩ := h
  unfold nxt
  rw [if_neg (by omega), if_neg (fun h => by have := h3 h.1; rw [this.1, this.2] at h; simp at h), if_neg (fun h => by have := h4 h.1; omega)]
end Tk
end Go.Proofs.YtppgklmliklkkaaDoor

/-
  Plain words of tokens: how far a token goes; all of them. No run of the program in this text.
-/
namespace Go.Proofs.YtppgklmliklkkaaDoor
namespace Tk
open Ru

theorem begs_in {l : List Int} {k : Nat} (h : begs l k = true) : inN l k = true := by
  unfold begs may at h
  unfold inN witB
  simp only [Bool.or_eq_true, Bool.and_eq_true, decide_eq_true_eq] at h ⊢
  rcases h with (h | h) | h
  · exact .inr (.inl h)
  · exact .inl h
  · exact .inr (.inr (.inr h.1))
theorem name_gt {l : List Int} {k : Nat} (h : inN l k = true) : k < (name l k).2 ∧ (name l k).2 ≤ l.length := by
  have ho := oneN_le h
  rw [name_yes h]
  have := name_le l _ (oneN l k).2 (Nat.le_refl _) ho.2
  simp only
  omega
theorem qq_le (l : List Int) (e : Int) : ∀ (m k : Nat), l.length + 1 - k ≤ m → k ≤ l.length + 1 → min k l.length ≤ (qq l e k).2.2 ∧ (qq l e k).2.2 ≤ l.length
  | m, k, hm, hk => by
    by_cases h : k < l.length ∧ g l k ≠ e
    · rw [qq_step h]
      match m, hm with
      | 0, hm => omega
      | m + 1, hm =>
        split
        · simp only; omega
        · split
          · rename_i he
            have hl := meant_le (esc_lt he).1
            have ih := qq_le l e m (meant l k).2 (by omega) (by omega)
            unfold push
            simp only
            omega
          · split
            · have ih := qq_le l e m (k + 2) (by omega) (by omega)
              omega
            · have ih := qq_le l e m (k + 1) (by omega) (by omega)
              unfold push
              simp only
              omega
    · rw [qq_end h]
      simp only
      omega
theorem rest_le {l : List Int} {k : Nat} (hk : k < l.length) : k < (rest l k).2.2.2 ∧ (rest l k).2.2.2 ≤ l.length := by
  unfold rest
  split
  · rename_i h
    have := name_gt (begs_in h.2)
    simp only; omega
  · split
    · rename_i h
      have := name_gt (begs_in h)
      split
      · rename_i h40
        have := at_lt (l := l) (k := (name l k).2) (fun e => by rw [e] at h40; exact absurd h40 (by decide))
        simp only; omega
      · simp only; omega
    · split
      · simp only; omega
      · split
        · simp only; omega
        · split
          · simp only; omega
          · simp only; omega
theorem nxt_le {l : List Int} {k : Nat} (hk : k < l.length) : k < (nxt l k).2.2.2 ∧ (nxt l k).2.2.2 ≤ l.length := by
  unfold nxt
  split
  · have := qq_le l (g l k) _ (k + 1) (Nat.le_refl _) (by omega)
    simp only; omega
  · split
    · rename_i h
      have hin : inN l (k + 1) = true := by
        unfold inN
        rcases h.2 with h | h
        · rw [h, Bool.or_true]
        · rw [h, Bool.true_or]
      have := name_gt hin
      simp only; omega
    · split
      · rename_i h
        have hn := nlen_le l k (by omega)
        split
        · rename_i h2
          have := name_gt (begs_in h2)
          simp only; omega
        · split
          · rename_i h37
            have := at_lt (l := l) (k := k + nlen l k) (fun e => by rw [e] at h37; exact absurd h37 (by decide))
            simp only; omega
          · simp only; omega
      · exact rest_le hk

/-- a token: its kind, its text, its number -/
abbrev Tok := Int × ByteArray × Int
def tokOf (r : Int × ByteArray × Int × Nat) : Tok := (r.1, r.2.1, r.2.2.1)
def spTok (b : Bool) : List Tok := if b = true then [(1, ⟨#[]⟩, 0)] else []
/-- the tokens from a place on -/
def scan (l : List Int) (k : Nat) : List Tok :=
  if _h : k < l.length then
    spTok (sp l k false).2 ++ (if _h2 : (sp l k false).1 < l.length then tokOf (nxt l (sp l k false).1) :: scan l (nxt l (sp l k false).1).2.2.2 else [])
  else []
termination_by l.length - k
decreasing_by
  have h1 := sp_le l k false (by omega)
  have h3 := nxt_le (by assumption)
  omega
theorem scan_on {l : List Int} {k : Nat} (h : k < l.length) (h2 : (sp l k false).1 < l.length) :
    scan l k = (spTok (sp l k false).2 ++ [tokOf (nxt l (sp l k false).1)]) ++ scan l (nxt l (sp l k false).1).2.2.2 := by
  rw [scan, dif_pos h, dif_pos h2, List.append_assoc]; rfl
theorem scan_last {l : List Int} {k : Nat} (h : k < l.length) (h2 : ¬ (sp l k false).1 < l.length) : scan l k = spTok (sp l k false).2 := by
  rw [scan, dif_pos h, dif_neg h2, List.append_nil]
theorem scan_end {l : List Int} {k : Nat} (h : ¬ k < l.length) : scan l k = [] := by
  rw [scan, dif_neg h]
theorem spTok_len (b : Bool) : (spTok b).length ≤ 1 := by
  unfold spTok; split <;> simp
theorem scan_len (l : List Int) : ∀ (m k : Nat), l.length - k ≤ m → (scan l k).length ≤ 2 * (l.length - k)
  | m, k, hm => by
    by_cases h : k < l.length
    · have h1 := sp_le l k false (by omega)
      have h5 := spTok_len (sp l k false).2
      by_cases h2 : (sp l k false).1 < l.length
      · have h3 := nxt_le (by assumption)
        rw [scan_on h h2]
        match m, hm with
        | 0, hm => omega
        | m + 1, hm =>
          have ih := scan_len l m (nxt l (sp l k false).1).2.2.2 (by omega)
          simp only [List.length_append, List.length_cons, List.length_nil]
          omega
      · rw [scan_last h h2]; omega
    · rw [scan_end h]; simp
/-- the cells of tokens, side by side -/
def cells (ts : List Tok) : List Value := ts.flatMap fun t => [.int .i64 t.1, .string t.2.1, .int .i64 t.2.2]
theorem cells_len (ts : List Tok) : (cells ts).length = ts.length * 3 := by
  unfold cells
  induction ts with
  | nil => rfl
  | cons t ts ih => rw [List.flatMap_cons, List.length_append, ih, List.length_cons]; simp; omega
theorem cells_app (ts us : List Tok) : cells (ts ++ us) = cells ts ++ cells us := by unfold cells; rw [List.flatMap_append]
end Tk
end Go.Proofs.YtppgklmliklkkaaDoor

/-
  Plain words of tokens: the program's own way, and that it comes to the same. No run of the program in this text.
-/
namespace Go.Proofs.YtppgklmliklkkaaDoor
namespace Fx
/-- the byte there ends every decimal -/
def Ends (L : List UInt8) (m : Nat) : Prop := at' L m = 128 ∨ at' L m = 0
theorem ends_isD {L : List UInt8} {m : Nat} (h : Ends L m) : isD (at' L m) = false := by rcases h with h | h <;> rw [h] <;> decide
theorem ends_ne {L : List UInt8} {m : Nat} (h : Ends L m) {c : UInt8} (h1 : c ≠ 128) (h2 : c ≠ 0) : at' L m ≠ c := by
  rcases h with h | h <;> rw [h]
  · exact fun e => h1 e.symm
  · exact fun e => h2 e.symm
theorem dig_stop {L : List UInt8} {m : Nat} (h : Ends L m) : ∀ n a, n = m - a → a ≤ m → dig L a ≤ m
  | 0, a, hn, ha => by
    have : a = m := by omega
    subst this
    rw [dig_no L a (ends_isD h)]; exact Nat.le_refl _
  | n + 1, a, hn, ha => by
    cases hd : isD (at' L a)
    · rw [dig_no L a hd]; exact ha
    · have hne : a ≠ m := fun e => by rw [e, ends_isD h] at hd; cases hd
      rw [dig_yes L a hd]
      exact dig_stop h n (a + 1) (by omega) (by omega)
theorem dig_cut {L : List UInt8} {m a : Nat} (h : Ends L m) (ha : a ≤ m) : dig (L.take m) a = dig L a := by
  rw [dig_take' L ha]
  have := dig_stop h _ a rfl ha
  omega
theorem at_cut {L : List UInt8} {m a : Nat} (h : Ends L m) (ha : a ≤ m) {c : UInt8} (h1 : c ≠ 128) (h2 : c ≠ 0) : at' (L.take m) a = c ↔ at' L a = c := by
  by_cases hlt : a < m
  · rw [at_take L hlt]
  · have : a = m := by omega
    subst this
    rw [at_take_past L (Nat.le_refl _)]
    exact ⟨fun e => absurd e.symm h2, fun e => absurd e (ends_ne h h1 h2)⟩
theorem sgn_cut {L : List UInt8} {m a : Nat} (h : Ends L m) (ha : a ≤ m) : sgn (L.take m) a = sgn L a ∧ sgn L a ≤ m := by
  unfold sgn
  have e1 := at_cut h ha (c := 43) (by decide) (by decide)
  have e2 := at_cut h ha (c := 45) (by decide) (by decide)
  by_cases c : at' L a = 43 ∨ at' L a = 45
  · rw [if_pos c, if_pos (by rw [e1, e2]; exact c)]
    refine ⟨rfl, ?_⟩
    by_cases hlt : a < m
    · omega
    · have : a = m := by omega
      subst this
      rcases c with c | c
      · exact absurd c (ends_ne h (by decide) (by decide))
      · exact absurd c (ends_ne h (by decide) (by decide))
  · rw [if_neg c, if_neg (by rw [e1, e2]; exact c)]
    exact ⟨rfl, ha⟩
theorem spDof_cut {L : List UInt8} {m w : Nat} (h : Ends L m) (hw : w ≤ m) : spDof (L.take m) w = spDof L w ∧ spDof L w ≤ m := by
  have e1 := at_cut h hw (c := 46) (by decide) (by decide)
  by_cases c : at' L w = 46
  · have hlt : w < m := by
      by_cases hlt : w < m
      · exact hlt
      · have : w = m := by omega
        subst this
        exact absurd c (ends_ne h (by decide) (by decide))
    have e2 := dig_cut h (show w + 1 ≤ m by omega)
    have e3 := dig_stop h _ (w + 1) rfl (by omega)
    unfold spDof
    by_cases c2 : w + 1 < dig L (w + 1)
    · rw [if_pos ⟨e1.2 c, by rw [e2]; exact c2⟩, if_pos ⟨c, c2⟩, e2]; exact ⟨rfl, e3⟩
    · rw [if_neg (fun hh => c2 (by rw [← e2]; exact hh.2)), if_neg (fun hh => c2 hh.2)]; exact ⟨rfl, hw⟩
  · unfold spDof
    rw [if_neg (fun hh => c (e1.1 hh.1)), if_neg (fun hh => c hh.1)]
    exact ⟨rfl, hw⟩
theorem spEof_cut {L : List UInt8} {m d : Nat} (h : Ends L m) (hd : d ≤ m) : spEof (L.take m) d = spEof L d ∧ spEof L d ≤ m := by
  have e1 := at_cut h hd (c := 101) (by decide) (by decide)
  have e2 := at_cut h hd (c := 69) (by decide) (by decide)
  by_cases c : at' L d = 101 ∨ at' L d = 69
  · have hlt : d < m := by
      by_cases hlt : d < m
      · exact hlt
      · have : d = m := by omega
        subst this
        rcases c with c | c
        · exact absurd c (ends_ne h (by decide) (by decide))
        · exact absurd c (ends_ne h (by decide) (by decide))
    have e3 := sgn_cut h (show d + 1 ≤ m by omega)
    have e4 := dig_cut h e3.2
    have e5 := dig_stop h _ (sgn L (d + 1)) rfl e3.2
    have c' : at' (L.take m) d = 101 ∨ at' (L.take m) d = 69 := by rw [e1, e2]; exact c
    unfold spEof
    rw [e3.1, e4]
    by_cases c2 : sgn L (d + 1) < dig L (sgn L (d + 1))
    · rw [if_pos ⟨c', c2⟩, if_pos ⟨c, c2⟩]; exact ⟨rfl, e5⟩
    · rw [if_neg (fun hh => c2 hh.2), if_neg (fun hh => c2 hh.2)]; exact ⟨rfl, hd⟩
  · unfold spEof
    rw [if_neg (fun hh => c (by have := hh.1; rw [e1, e2] at this; exact this)), if_neg (fun hh => c hh.1)]
    exact ⟨rfl, hd⟩
theorem len_cut {L : List UInt8} {m : Nat} (h : Ends L m) : len (L.take m) = len L ∧ len L ≤ m := by
  have s := sgn_cut h (Nat.zero_le m)
  have w := dig_cut h s.2
  have w2 := dig_stop h _ (sgn L 0) rfl s.2
  have d := spDof_cut h w2
  have e := spEof_cut h d.2
  have es : spS (L.take m) = spS L := s.1
  have ew : spW (L.take m) = spW L := by unfold spW; rw [es]; exact w
  have ed : spD (L.take m) = spD L := by unfold spD; rw [ew]; exact d.1
  have ee : spE (L.take m) = spE L := by unfold spE; rw [ed]; exact e.1
  unfold len
  rw [es, ed, ee]
  refine ⟨rfl, ?_⟩
  split
  · omega
  · exact e.2
end Fx
namespace Tk
open Ru

/-- a character as a byte of the plain text -/
def p8 (c : Int) : UInt8 := UInt8.ofNat (min c 128).toNat
theorem p8_lt {c : Int} (h : c < 128) : p8 c = u8 c := by unfold p8 u8; rw [show min c 128 = c by omega]
theorem p8_ge {c : Int} (h : ¬ c < 128) : p8 c = 128 := by unfold p8; rw [show min c 128 = 128 by omega]; rfl
theorem numL_eq (l : List Int) (k : Nat) : numL l k = (ascL l k).map u8 := by
  unfold numL strOfNums; simp [u8]
theorem ascL_take (m : List Int) : (m.takeWhile fun c => decide (c < 128)).map u8 = (m.map p8).take (m.takeWhile fun c => decide (c < 128)).length ∧ Fx.Ends (m.map p8) (m.takeWhile fun c => decide (c < 128)).length := by
  induction m with
  | nil => exact ⟨rfl, .inr rfl⟩
  | cons a t ih =>
    by_cases h : a < 128
    · rw [List.takeWhile_cons, decide_eq_true h, if_pos rfl]
      refine ⟨?_, ?_⟩
      · rw [List.map_cons, List.map_cons, List.length_cons, List.take_succ_cons, p8_lt h, ← ih.1]
      · have := ih.2
        unfold Fx.Ends Fx.at' at *
        rw [List.map_cons, List.length_cons, List.getD_cons_succ]
        exact this
    · rw [List.takeWhile_cons, decide_eq_false h]
      refine ⟨rfl, .inl ?_⟩
      unfold Fx.at'
      rw [List.map_cons, p8_ge h]; rfl
/-- the plain text tells the same decimals -/
theorem plain_len (l : List Int) (k : Nat) : Fx.len ((l.map p8).drop k) = nlen l k := by
  have h := ascL_take (l.drop k)
  unfold nlen
  rw [numL_eq, ← List.map_drop]
  show _ = Fx.len (((l.drop k).takeWhile fun c => decide (c < 128)).map u8)
  rw [h.1]
  exact (Fx.len_cut h.2).1.symm
theorem plain_val (l : List Int) (k : Nat) : pv (((l.map p8).drop k).take (nlen l k)) = nval l k := by
  have h := ascL_take (l.drop k)
  have h2 := (Fx.len_cut h.2).2
  rw [List.map_drop, plain_len] at h2
  unfold nval
  rw [numL_eq]
  show _ = pv ((((l.drop k).takeWhile fun c => decide (c < 128)).map u8).take (nlen l k))
  rw [h.1, List.take_take, List.map_drop, Nat.min_eq_left h2]
/-- a decimal begins with such a character -/
theorem nlen_num {l : List Int} {k : Nat} (h : 0 < nlen l k) : k < l.length ∧ numB (g l k) = true := by
  have hk : k < l.length := by
    have h1 := numL_len l k
    have h2 := Fx.len_hi (numL l k)
    unfold nlen at h
    omega
  refine ⟨hk, ?_⟩
  rw [← plain_len] at h
  have e : Fx.at' ((l.map p8).drop k) 0 = p8 (g l k) := by
    unfold Fx.at'
    rw [← List.map_drop, List.drop_eq_getElem_cons hk, List.map_cons, g_eq hk]; rfl
  generalize (l.map p8).drop k = L at *
  unfold numB
  apply decide_eq_true
  have hne : Fx.spD L ≠ Fx.spS L := fun hh => by unfold Fx.len at h; rw [if_pos hh] at h; omega
  have key : Fx.at' L 0 = 43 ∨ Fx.at' L 0 = 45 ∨ Fx.at' L 0 = 46 ∨ Fx.isD (Fx.at' L 0) = true := by
    by_cases h1 : Fx.at' L 0 = 43
    · exact .inl h1
    by_cases h2 : Fx.at' L 0 = 45
    · exact .inr (.inl h2)
    by_cases h3 : Fx.at' L 0 = 46
    · exact .inr (.inr (.inl h3))
    cases hd : Fx.isD (Fx.at' L 0)
    · exfalso
      apply hne
      have es : Fx.spS L = 0 := by unfold Fx.spS Fx.sgn; rw [if_neg (by rintro (e | e); exact h1 e; exact h2 e)]
      have ew : Fx.spW L = 0 := by unfold Fx.spW; rw [es, Fx.dig_no L 0 hd]
      unfold Fx.spD Fx.spDof
      rw [ew, es, if_neg (fun hh => h3 hh.1)]
    · exact .inr (.inr (.inr rfl))
  rw [e] at key
  by_cases hc : g l k < 128
  · rw [p8_lt hc] at key
    by_cases h0 : 0 ≤ g l k
    · have ht : (u8 (g l k)).toNat = (g l k).toNat := by unfold u8; rw [UInt8.toNat_ofNat']; omega
      rcases key with h | h | h | h
      · rw [h] at ht; have : (43 : UInt8).toNat = 43 := rfl; omega
      · rw [h] at ht; have : (45 : UInt8).toNat = 45 := rfl; omega
      · rw [h] at ht; have : (46 : UInt8).toNat = 46 := rfl; omega
      · unfold Fx.isD at h; have := of_decide_eq_true h; omega
    · have : u8 (g l k) = 0 := by unfold u8; rw [show (g l k).toNat = 0 by omega]; rfl
      rw [this] at key
      exfalso; revert key; decide
  · rw [p8_ge hc] at key
    exfalso; revert key; decide

/-! ### the small tests -/
theorem at_lo {l : List Int} (h : ∀ c ∈ l, 0 ≤ c) (k : Nat) : -1 ≤ at' l k := by
  unfold at'
  split
  · rename_i hk
    rw [g_eq hk]
    have := h _ (List.getElem_mem hk)
    omega
  · omega
theorem at_neg {l : List Int} (h : ∀ c ∈ l, 0 ≤ c) {k : Nat} (hk : k < l.length) : 0 ≤ at' l k := by
  rw [at_in hk, g_eq hk]; exact h _ (List.getElem_mem hk)
/-- an escape, as the program asks for it -/
theorem esc_code {l : List Int} (h : ∀ c ∈ l, 0 ≤ c) (k : Nat) : esc l k = (decide (at' l k = 92) && (decide (at' l (k + 1) ≠ 10) && decide (at' l (k + 1) ≠ -1))) := by
  have := at_lo h (k + 1)
  unfold esc
  rw [Bool.eq_iff_iff]
  simp only [Bool.and_eq_true, decide_eq_true_eq]
  omega
theorem begs_code (l : List Int) (k : Nat) : begs l k = if at' l k = 45 then (decide (at' l (k + 1) = 45) || may l (k + 1)) else may l k := by
  unfold begs
  by_cases h : at' l k = 45
  · have hm : may l k = false := by
      unfold may esc
      rw [h]
      rfl
    rw [if_pos h, hm, decide_eq_true h, Bool.false_or, Bool.true_and, Bool.or_comm]
  · rw [if_neg h, decide_eq_false h, Bool.false_and, Bool.or_false]
theorem qq_far (l : List Int) (e : Int) {k : Nat} (hk : l.length ≤ k) : qq l e k = (6, [], l.length) := by
  rw [qq_end (by omega), show min (k + 1) l.length = l.length by omega]
theorem qq_clamp {l : List Int} {e : Int} {k : Nat} : qq l e k = qq l e (min k l.length) := by
  by_cases h : k ≤ l.length
  · rw [Nat.min_eq_left h]
  · rw [qq_far l e (by omega), Nat.min_eq_right (by omega), qq_far l e (Nat.le_refl _)]

/-! ### gaps -/
theorem sp_stop (l : List Int) : ∀ (m k : Nat) (b : Bool), l.length - k ≤ m → k ≤ l.length → whiB (at' l (sp l k b).1) = false ∧ opn l (sp l k b).1 = false
  | m, k, b, hm, hk => by
    cases hw : whiB (at' l k)
    · cases ho : opn l k
      · rw [sp_no hw ho]; exact ⟨hw, ho⟩
      · rw [sp_opn hw ho]
        have hc := cmt_le ho
        match m, hm with
        | 0, hm => omega
        | m + 1, hm => exact sp_stop l m _ b (by omega) hc.2
    · rw [sp_white hw]
      have := whi_lt hw
      match m, hm with
      | 0, hm => omega
      | m + 1, hm => exact sp_stop l m _ true (by omega) (by omega)
theorem sp_gt {l : List Int} {k : Nat} {b : Bool} (h : whiB (at' l k) = true ∨ opn l k = true) : k < (sp l k b).1 := by
  cases hw : whiB (at' l k)
  · rw [hw] at h
    have ho : opn l k = true := by
      rcases h with h | h
      · cases h
      · exact h
    rw [sp_opn hw ho]
    have hc := cmt_le ho
    have := sp_le l (cmt l k) b hc.2
    omega
  · rw [sp_white hw]
    have hlt := whi_lt hw
    have := sp_le l (k + 1) true (by omega)
    omega
/-- past a gap there is none -/
theorem sp_again {l : List Int} {k : Nat} (b c : Bool) (hk : k ≤ l.length) : sp l (sp l k b).1 c = ((sp l k b).1, c) := by
  have h := sp_stop l _ k b (Nat.le_refl _) hk
  exact sp_no h.1 h.2
/-- the tokens from a place on: what the gap there is, and what is behind it -/
theorem scan_gap {l : List Int} {k : Nat} (hk : k < l.length) : scan l k = spTok (sp l k false).2 ++ scan l (sp l k false).1 := by
  have h1 := sp_le l k false (by omega)
  have h2 := sp_again false false (show k ≤ l.length by omega)
  by_cases h : (sp l k false).1 < l.length
  · rw [scan_on hk h, List.append_assoc]
    congr 1
    have h3 := scan_on h (by rw [h2]; exact h)
    rw [h3, h2]; rfl
  · rw [scan_last hk h, scan_end h, List.append_nil]
theorem scan_tok {l : List Int} {k : Nat} (hk : k < l.length) (hw : whiB (at' l k) = false) (ho : opn l k = false) : scan l k = tokOf (nxt l k) :: scan l (nxt l k).2.2.2 := by
  have h := sp_no (b := false) hw ho
  have h2 := scan_on hk (by rw [h]; exact hk)
  rw [h2, h]; rfl
end Tk
end Go.Proofs.YtppgklmliklkkaaDoor

/-
  Words for a token in memory. No run of the program in this text.
-/
namespace Go.Proofs.YtppgklmliklkkaaDoor
open Go.RowKit

namespace Tk
def pushes (ds : List Int) (r : Int × List Int × Nat) : Int × List Int × Nat := (r.1, ds ++ r.2.1, r.2.2)
end Tk
/-- a token that nothing has been said of -/
abbrev zeroTok : Obj := .cells #[.int .i64 0, .string ⟨#[]⟩, .int .i64 0] 29
def tokV (kind : Int) (t : ByteArray) (n : Int) : Value := .agg #[.int .i64 kind, .string t, .int .i64 n]
def QuoAt (l : List Int) (e : Int) (k0 : Nat) (w : World) (v1 v7 : Value) (wr : World) : Prop :=
  ∃ (k : Nat) (ds : List Int), k ≤ l.length + 1 ∧ v1 = .int .i64 k ∧ Hid (Tk.qq l e k0 = Tk.pushes ds (Tk.qq l e k)) ∧ wr.ownsRow (w.heap.size + 1) 3 1 v7 ds.length (nums .i64 ds) ∧ Hid (Below (w.heap.size + 1) (w.alloc zeroTok) wr) ∧ ds.length ≤ k
/-- a token, and where it ends -/
def Tokened (kind : Int) (t : ByteArray) (n : Int) (k : Nat) (w : World) (e : Ending) (w' : World) : Prop := e = .returned (.tuple #[tokV kind t n, .int .i64 k]) ∧ Below w.heap.size w w'

theorem zero_size (w : World) : (w.alloc zeroTok).heap.size = w.heap.size + 1 := by simp
theorem quo_below {w wr w2 : World} (h : Below (w.heap.size + 1) (w.alloc zeroTok) wr) (h2 : Below wr.heap.size wr w2) : Below (w.heap.size + 1) (w.alloc zeroTok) w2 :=
  h.trans (h2.mono (by have := h.size; rw [zero_size] at this; exact this))
theorem tok_cells {w w2 : World} (h : Below (w.heap.size + 1) (w.alloc zeroTok) w2) :
    w2.cell? ⟨w.heap.size, 0, none⟩ = some (.int .i64 0) ∧ w2.cell? ⟨w.heap.size, 1, none⟩ = some (.string ⟨#[]⟩) ∧ w2.cell? ⟨w.heap.size, 2, none⟩ = some (.int .i64 0) ∧
    w2.frozen? ⟨w.heap.size, 0, none⟩ = false ∧ w2.frozen? ⟨w.heap.size, 1, none⟩ = false ∧ w2.frozen? ⟨w.heap.size, 2, none⟩ = false := by
  have hc : ∀ j, w2.cell? ⟨w.heap.size, j, none⟩ = (w.alloc zeroTok).cell? ⟨w.heap.size, j, none⟩ := fun j => h.cell (p := ⟨w.heap.size, j, none⟩) (Nat.lt_succ_self _)
  have hf : ∀ j, w2.frozen? ⟨w.heap.size, j, none⟩ = (w.alloc zeroTok).frozen? ⟨w.heap.size, j, none⟩ := fun j => h.frozen (p := ⟨w.heap.size, j, none⟩) (Nat.lt_succ_self _)
  rw [hc, hc, hc, hf, hf, hf]
  unfold zeroTok
  refine ⟨?_, ?_, ?_, ?_, ?_, ?_⟩
  · rw [World.cell?_alloc_mark]; rfl
  · rw [World.cell?_alloc_mark]; rfl
  · rw [World.cell?_alloc_mark]; rfl
  · rw [World.frozen?_alloc_mark]; rfl
  · rw [World.frozen?_alloc_mark]; rfl
  · rw [World.frozen?_alloc_mark]; rfl

theorem tok_below {w w2 : World} (h : Below (w.heap.size + 1) (w.alloc zeroTok) w2) (x y z : Value) :
    Below w.heap.size w (((w2.setCell ⟨w.heap.size, 0, none⟩ x).setCell ⟨w.heap.size, 1, none⟩ y).setCell ⟨w.heap.size, 2, none⟩ z) :=
  (((((Below.refl _ w).alloc (Nat.le_refl _) _).trans (h.mono (Nat.le_succ _))).setCell (Nat.le_refl _) _).setCell (Nat.le_refl _) _).setCell (Nat.le_refl _) _
theorem quo_size {w wr : World} (h : Below (w.heap.size + 1) (w.alloc zeroTok) wr) : w.heap.size + 1 ≤ wr.heap.size := by have := h.size; rw [zero_size] at this; exact this
theorem quo_next {w wr w3 : World} {o : Obj} {k : IntKind} {E : TypeId} {v v' : Value} {ds : List Int} {x : Int} (hown : wr.ownsRow (w.heap.size + 1) E 1 v ds.length (nums k ds)) (hbel : Below (w.heap.size + 1) (w.alloc zeroTok) wr)
    (hown3 : w3.ownsRow (w.heap.size + 1) E 1 v' (ds.length + 1) (nums k ds ++ [.int k x])) (hgrow : (wr.alloc o).grownBy w3 v.ownBlock) :
    w3.ownsRow (w.heap.size + 1) E 1 v' (ds ++ [x]).length (nums k (ds ++ [x])) ∧ Below (w.heap.size + 1) (w.alloc zeroTok) w3 := by
  refine ⟨?_, ?_⟩
  · rw [nums_app, List.length_append]; exact hown3
  · exact (hbel.alloc (quo_size hbel) o).grown hgrow (by have := quo_size hbel; simp; omega) (fun j hj => (hown.lt j hj).1)
theorem tok_ret {kind kind' n n' : Int} {t t' : ByteArray} {k k' : Int} (h1 : kind = kind') (h2 : t = t') (h3 : n = n') (h4 : k = k') : Ending.returned (.tuple #[tokV kind t n, .int .i64 k]) = .returned (.tuple #[tokV kind' t' n', .int .i64 k']) := by rw [h1, h2, h3, h4]
end Go.Proofs.YtppgklmliklkkaaDoor

/-
  Words for the scanner's memory: the block of a scanner, a text that is gathered; what a step may turn.
-/
namespace Go.Proofs.YtppgklmliklkkaaDoor
open Go.RowKit

/-- nothing has turned but block g, and new blocks -/
structure Mv (g : Nat) (w w' : World) : Prop where
  os : w'.os = w.os
  tape : w'.tape = w.tape
  output : w'.output = w.output
  size : w.heap.size ≤ w'.heap.size
  block : ∀ k, k < w.heap.size → k ≠ g → w'.heap[k]? = w.heap[k]?

section
variable {g : Nat} {w w' w2 : World}
theorem Mv.refl (g : Nat) (w : World) : Mv g w w := ⟨rfl, rfl, rfl, Nat.le_refl _, fun _ _ _ => rfl⟩
theorem Mv.trans (h : Mv g w w') (k : Mv g w' w2) : Mv g w w2 :=
  ⟨k.os.trans h.os, k.tape.trans h.tape, k.output.trans h.output, Nat.le_trans h.size k.size, fun i hi hg => (k.block i (Nat.lt_of_lt_of_le hi h.size) hg).trans (h.block i hi hg)⟩
theorem Mv.of_below {B : Nat} (h : Below B w w') (hB : w.heap.size ≤ B) : Mv g w w' :=
  ⟨h.os, h.tape, h.output, h.size, fun k hk _ => h.block k (by omega)⟩
/-- a step that turns blocks of the call's own -/
theorem Mv.then_ {B : Nat} (h : Mv g w w') (k : Below B w' w2) (hB : w.heap.size ≤ B) : Mv g w w2 :=
  ⟨k.os.trans h.os, k.tape.trans h.tape, k.output.trans h.output, Nat.le_trans h.size k.size, fun i hi hg => (k.block i (by omega)).trans (h.block i hi hg)⟩
theorem Mv.alloc (h : Mv g w w') (o : Obj) : Mv g w (w'.alloc o) := h.then_ ((Below.refl _ _).alloc (Nat.le_refl _) o) h.size
theorem Mv.drewN (h : Mv g w w') (n : Nat) : Mv g w (w'.drewN n) := h.then_ (below_drewN (Below.refl _ _) n) (Nat.le_refl _)
theorem Mv.set (h : Mv g w w') (i : Nat) (u : Value) : Mv g w (w'.setCell ⟨g, i, none⟩ u) :=
  ⟨h.os, h.tape, h.output, by simpa [World.setCell] using h.size, fun k hk hg => (Below.heap_setCell w' ⟨g, i, none⟩ u k hg).trans (h.block k hk hg)⟩
theorem Mv.below (h : Mv g w w') {B : Nat} (hB : B ≤ g) (hs : B ≤ w.heap.size) : Below B w w' :=
  ⟨h.os, h.tape, h.output, h.size, fun k hk => h.block k (by omega) (by omega)⟩
theorem own_mv {base : Nat} {e : TypeId} {size n : Nat} {v : Value} {xs : List Value} (h : w.ownsRow base e size v n xs) (hb : Mv g w w') (hg : g < base) : w'.ownsRow base e size v n xs :=
  h.kept (row := some g) ⟨hb.os, hb.tape, hb.output, hb.size, fun k hk hne => hb.block k hk (fun e => hne (by rw [e]))⟩ (by
    cases hv : v.ownBlock with
    | none => exact .inl rfl
    | some x => exact .inr (fun e => by have := (h.lt x hv).1; injection e with e; omega))
end

/-- a scanner at block g: characters l, plain text pl, at place k -/
structure Sc (w : World) (g : Nat) (A : Option Addr) (cap : Nat) (l : List Int) (pl : ByteArray) (k : Nat) : Prop where
  blk : w.heap[g]? = some (.cells #[.slice A l.length cap, .int .i64 k, .string pl] 47 (0, 0))
  on : Bs w g .i32 A l
section
variable {w w' : World} {g cap k : Nat} {A : Option Addr} {l : List Int} {pl : ByteArray}
theorem Sc.lt (h : Sc w g A cap l pl k) : g < w.heap.size := lt_of_block h.blk
theorem Sc.c0 (h : Sc w g A cap l pl k) : w.cell? ⟨g, 0, none⟩ = some (.slice A l.length cap) := by simp [World.cell?, h.blk]
theorem Sc.c1 (h : Sc w g A cap l pl k) : w.cell? ⟨g, 1, none⟩ = some (.int .i64 k) := by simp [World.cell?, h.blk]
theorem Sc.c2 (h : Sc w g A cap l pl k) : w.cell? ⟨g, 2, none⟩ = some (.string pl) := by simp [World.cell?, h.blk]
theorem Sc.f1 (h : Sc w g A cap l pl k) : w.frozen? ⟨g, 1, none⟩ = false := by simp [World.frozen?, h.blk]
/-- the scanner's block and all ahead of it are as they were -/
theorem Sc.below (h : Sc w g A cap l pl k) {B : Nat} (hb : Below B w w') (hB : g < B) : Sc w' g A cap l pl k :=
  ⟨(hb.block g hB).trans h.blk, h.on.below (hb.mono (by omega))⟩
theorem Sc.drewN (h : Sc w g A cap l pl k) (n : Nat) : Sc (w.drewN n) g A cap l pl k := h.below (below_drewN (Below.refl (g + 1) _) n) (Nat.lt_succ_self _)
theorem Sc.alloc (h : Sc w g A cap l pl k) (o : Obj) : Sc (w.alloc o) g A cap l pl k := h.below ((Below.refl _ _).alloc (Nat.le_refl _) o) h.lt
theorem Sc.goes (h : Sc w g A cap l pl k) (j : Nat) : Sc (w.setCell ⟨g, 1, none⟩ (.int .i64 j)) g A cap l pl j := by
  refine ⟨?_, h.on.keep fun p hp => World.cell?_setCell_other w ⟨g, 1, none⟩ p _ (fun e => by subst e; exact absurd hp (Nat.lt_irrefl _))⟩
  have := h.blk
  simp [World.setCell, Array.getElem?_modify, this]
end
/-- what is gathered at block c -/
def Ga (w : World) (c : Nat) (ds : List Int) : Prop :=
  ∃ v, w.heap[c]? = some (.cells #[v] 41 (0, 0)) ∧ w.ownsRow (c + 1) 21 1 v ds.length (nums .i32 ds)
theorem Ga.mv {w w' : World} {g c : Nat} {ds : List Int} (h : Ga w c ds) (hb : Mv g w w') (hg : g < c) : Ga w' c ds := by
  obtain ⟨v, hc, ho⟩ := h
  exact ⟨v, (hb.block c (lt_of_block hc) (by omega)).trans hc, own_mv ho hb (by omega)⟩
/-- what a step of the scanner has come to -/
def Stp (g : Nat) (A : Option Addr) (cap : Nat) (l : List Int) (pl : ByteArray) (k : Nat) (v : Value) (w : World) (e : Ending) (w' : World) : Prop :=
  e = .returned v ∧ Sc w' g A cap l pl k ∧ Mv g w w'
/-- a token that is made at block b -/
def Tz (w : World) (b : Nat) : Prop := w.heap[b]? = some (.cells #[.int .i64 0, .string ⟨#[]⟩, .int .i64 0] 29 (0, 0))
section
variable {w w' : World} {g b : Nat}
theorem Tz.cells (h : Tz w b) : w.cell? ⟨b, 0, none⟩ = some (.int .i64 0) ∧ w.cell? ⟨b, 1, none⟩ = some (.string ⟨#[]⟩) ∧ w.cell? ⟨b, 2, none⟩ = some (.int .i64 0) ∧ w.frozen? ⟨b, 0, none⟩ = false ∧ w.frozen? ⟨b, 1, none⟩ = false ∧ w.frozen? ⟨b, 2, none⟩ = false := by
  unfold Tz at h
  refine ⟨?_, ?_, ?_, ?_, ?_, ?_⟩ <;> simp [World.cell?, World.frozen?, h]
theorem Tz.mv (h : Tz w b) (hb : Mv g w w') (hg : g < b) : Tz w' b := (hb.block b (lt_of_block h) (by omega)).trans h
theorem Tz.below (h : Tz w b) {B : Nat} (hb : Below B w w') (hB : b < B) : Tz w' b := (hb.block b hB).trans h
theorem Tz.new (w : World) : Tz (w.alloc (.cells #[.int .i64 0, .string ⟨#[]⟩, .int .i64 0] 29)) w.heap.size := heap_alloc_new w _
/-- stores into the new token -/
theorem tz_stores {w0 : World} (h : Mv g w0 w) (hb : w0.heap.size ≤ b) (x y z : Value) : Mv g w0 (((w.setCell ⟨b, 0, none⟩ x).setCell ⟨b, 1, none⟩ y).setCell ⟨b, 2, none⟩ z) :=
  h.then_ ((((Below.refl b w).setCell (Nat.le_refl _) _).setCell (Nat.le_refl _) _).setCell (Nat.le_refl _) _) hb
theorem sc_stores {A : Option Addr} {cap : Nat} {l : List Int} {pl : ByteArray} {k : Nat} (h : Sc w g A cap l pl k) (hb : g < b) (x y z : Value) : Sc (((w.setCell ⟨b, 0, none⟩ x).setCell ⟨b, 1, none⟩ y).setCell ⟨b, 2, none⟩ z) g A cap l pl k :=
  h.below ((((Below.refl b w).setCell (Nat.le_refl _) _).setCell (Nat.le_refl _) _).setCell (Nat.le_refl _) _) hb
end
end Go.Proofs.YtppgklmliklkkaaDoor

/-
  Plain words of tokens: hex digits, what an escape means. No run of the program in this text.
-/
namespace Go.Proofs.YtppgklmliklkkaaDoor
open Go.RowKit

namespace Tk
open Ru
theorem pow16 {m : Nat} (h : m ≤ 5) : (16 : Int) ^ m ≤ 1048576 := by
  rcases (show m = 0 ∨ m = 1 ∨ m = 2 ∨ m = 3 ∨ m = 4 ∨ m = 5 by omega) with rfl | rfl | rfl | rfl | rfl | rfl <;> decide
theorem hexR_yes {f : Nat} {l : List Int} {j : Nat} {n : Int} (h : 0 ≤ hexV (at' l j)) : hexR (f + 1) l j n = hexR f l (j + 1) (n * 16 + hexV (at' l j)) := by
  conv => lhs; unfold hexR
  rw [if_pos h]
theorem hexR_no {f : Nat} {l : List Int} {j : Nat} {n : Int} (h : ¬ 0 ≤ hexV (at' l j)) : hexR f l j n = (n, j) := by
  cases f with
  | zero => rfl
  | succ f => conv => lhs; unfold hexR
              rw [if_neg h]
theorem hexR_end {l : List Int} {j : Nat} {n : Int} : hexR 0 l j n = (n, j) := rfl
/-- the number and the place, out of where the digits end -/
def meantN (n : Int) : Int := if n = 0 ∨ isB n = false then 65533 else n
def meantK (l : List Int) (j : Nat) : Nat := if whiB (at' l j) = true then j + 1 else j
theorem meant_none {l : List Int} {k : Nat} {n : Int} (h : hexR 6 l (k + 1) 0 = (n, k + 1)) : meant l k = (g l (k + 1), k + 2) := by
  unfold meant; rw [h]; simp
theorem meant_some {l : List Int} {k j : Nat} {n : Int} (h : hexR 6 l (k + 1) 0 = (n, j)) (hj : j ≠ k + 1) : meant l k = (meantN n, meantK l j) := by
  unfold meant meantN meantK; rw [h]; simp [hj]
end Tk
end Go.Proofs.YtppgklmliklkkaaDoor

/-
  Plain words of tokens: characters are characters. No run of the program in this text.
-/
namespace Go.Proofs.YtppgklmliklkkaaDoor
namespace Tk
open Ru
/-- each is a character -/
def Chr (l : List Int) : Prop := ∀ c ∈ l, 0 ≤ c ∧ c ≤ 1114111
theorem Chr.pos {l : List Int} (h : Chr l) : ∀ c ∈ l, 0 ≤ c := fun c hc => (h c hc).1
theorem Chr.g {l : List Int} (h : Chr l) {k : Nat} (hk : k < l.length) : 0 ≤ g l k ∧ g l k ≤ 1114111 := by
  rw [g_eq hk]; exact h _ (List.getElem_mem hk)
theorem Chr.at_ {l : List Int} (h : Chr l) (k : Nat) : -1 ≤ at' l k ∧ at' l k ≤ 1114111 := by
  by_cases hk : k < l.length
  · rw [at_in hk]; have := h.g hk; omega
  · rw [at_out hk]; omega
theorem isB_le {c : Int} (h : isB c = true) : 0 ≤ c ∧ c ≤ 1114111 := by
  unfold isB at h
  have := of_decide_eq_true h
  omega
theorem Chr.meant_ {l : List Int} (h : Chr l) {k : Nat} (he : esc l k = true) : 0 ≤ (meant l k).1 ∧ (meant l k).1 ≤ 1114111 := by
  have hk := (esc_lt he).1
  unfold meant
  split
  · exact h.g hk
  · simp only
    split
    · omega
    · rename_i h2
      have hb : isB (hexR 6 l (k + 1) 0).1 = true := by
        cases hb : isB (hexR 6 l (k + 1) 0).1
        · exact absurd (.inr hb) h2
        · rfl
      exact isB_le hb
end Tk
/-- where the scanner at block g stands -/
def posOf (w : World) (b : Nat) : Nat := match w.cell? ⟨b, 1, none⟩ with
  | some (.int _ n) => n.toNat
  | _ => 0
end Go.Proofs.YtppgklmliklkkaaDoor
