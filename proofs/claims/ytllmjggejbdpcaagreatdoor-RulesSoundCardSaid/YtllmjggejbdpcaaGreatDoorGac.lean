/-
  Plain words of tokens: what stands at a place of characters. No run of the program in this text.
-/
import Derived.Test.YtllmjggejbdpcaaGreatDoorGaa
import Derived.Lib.RuneBytes
import Derived.Laws.BytesArg
import Derived.Laws.IdiomStrings
import Derived.WalkSpells
import Derived.WalkLawsBesides
import Derived.Lib.Hide
import Derived.LoopTactic
import Derived.Lib.Atoi
import Derived.Lib.Strings
import Derived.Lib.AppendIntMem
import Derived.Lib.SmallJoins
import Derived.Lib.ItoaLen
import Derived.Lib.TrimByte
namespace Go.Proofs.YtllmjggejbdpcaaGreatDoor
namespace Tk
open Ru
def at' (l : List Int) (k : Nat) : Int := if k < l.length then g l k else -1
def esc (l : List Int) (k : Nat) : Bool := decide (at' l k = 92 /\ 0 <= at' l (k + 1) /\ at' l (k + 1) ≠ 10)
def hexR : Nat -> List Int -> Nat -> Int -> Int × Nat
 | 0, _, j, n => (n, j)
 | f + 1, l, j, n => if 0 <= hexV (at' l j) then hexR f l (j + 1) (n * 16 + hexV (at' l j)) else (n, j)
def meant (l : List Int) (k : Nat) : Int × Nat :=
 if (hexR 6 l (k + 1) 0).2 = k + 1 then (g l (k + 1), k + 2)
 else (if (hexR 6 l (k + 1) 0).1 = 0 ∨ isB (hexR 6 l (k + 1) 0).1 = false then 65533 else (hexR 6 l (k + 1) 0).1,
  if whiB (at' l (hexR 6 l (k + 1) 0).2) = true then (hexR 6 l (k + 1) 0).2 + 1 else (hexR 6 l (k + 1) 0).2)
def may (l : List Int) (k : Nat) : Bool := begB (at' l k) || esc l k
def begs (l : List Int) (k : Nat) : Bool := may l k || (decide (at' l k = 45) && (may l (k + 1) || decide (at' l (k + 1) = 45)))
def inN (l : List Int) (k : Nat) : Bool := esc l k || witB (at' l k)
def oneN (l : List Int) (k : Nat) : Int × Nat := if at' l k = 92 then meant l k else (at' l k, k + 1)
def nameF : Nat -> List Int -> Nat -> List Int × Nat
 | 0, _, k => ([], k)
 | f + 1, l, k => if inN l k = true then ((oneN l k).1 :: (nameF f l (oneN l k).2).1, (nameF f l (oneN l k).2).2) else ([], k)
def name (l : List Int) (k : Nat) : List Int × Nat := nameF l.length l k
theorem at_lt {l : List Int} {k : Nat} (h : at' l k ≠ -1) : k < l.length := by
 unfold at' at h
 by_cases c : k < l.length
 ·exact c
 ·rw [if_neg c] at h; exact absurd rfl h
theorem at_in {l : List Int} {k : Nat} (h : k < l.length) : at' l k = g l k := by unfold at'; rw [if_pos h]
theorem at_out {l : List Int} {k : Nat} (h : ¬ k < l.length) : at' l k = -1 := by unfold at'; rw [if_neg h]
theorem hexV_out : hexV (-1) = -1 := by decide
theorem hexV_le (c : Int) : -1 <= hexV c /\ hexV c <= 15 := by unfold hexV; omega
theorem hexR_le : ∀ (f : Nat) (l : List Int) (j : Nat) (n : Int), j <= (hexR f l j n).2 /\ (hexR f l j n).2 <= j + f /\ (j <= l.length -> (hexR f l j n).2 <= l.length)
 | 0, _, _, _ => by unfold hexR; simp
 | f + 1, l, j, n => by
   unfold hexR
   by_cases c : 0 <= hexV (at' l j)
   ·rw [if_pos c]
    have ih := hexR_le f l (j + 1) (n * 16 + hexV (at' l j))
    have hj : j < l.length := at_lt (fun e => by rw [e, hexV_out] at c; omega)
    omega
   ·rw [if_neg c]; simp
theorem esc_lt {l : List Int} {k : Nat} (h : esc l k = true) : k + 1 < l.length /\ at' l k = 92 /\ at' l (k + 1) ≠ 10 := by
 unfold esc at h
 have := of_decide_eq_true h
 exact ⟨at_lt (fun e => by omega), this.1, this.2.2⟩
theorem meant_le {l : List Int} {k : Nat} (h : k + 1 < l.length) : k + 2 <= (meant l k).2 /\ (meant l k).2 <= l.length := by
 have hr := hexR_le 6 l (k + 1) 0
 unfold meant
 split
 ·simp only; omega
 ·rename_i h1
  simp only
  split
  ·rename_i h2
   have hw : (hexR 6 l (k + 1) 0).2 < l.length := at_lt (fun e => by rw [e] at h2; revert h2; decide)
   omega
  ·omega
theorem witB_out : witB (-1) = false := by decide
theorem inN_lt {l : List Int} {k : Nat} (h : inN l k = true) : k < l.length := by
 unfold inN at h
 rw [Bool.or_eq_true] at h
 rcases h with h | h
 ·have := (esc_lt h).1; omega
 ·exact at_lt (fun e => by rw [e, witB_out] at h; cases h)
theorem inN_esc {l : List Int} {k : Nat} (h : inN l k = true) (h92 : at' l k = 92) : esc l k = true := by
 unfold inN at h
 rw [Bool.or_eq_true] at h
 rcases h with h | h
 ·exact h
 ·rw [h92, show witB 92 = false by decide] at h; cases h
theorem oneN_le {l : List Int} {k : Nat} (h : inN l k = true) : k + 1 <= (oneN l k).2 /\ (oneN l k).2 <= l.length := by
 have hk := inN_lt h
 unfold oneN
 split
 ·rename_i h92
  have := meant_le (esc_lt (inN_esc h h92)).1
  omega
 ·simp only; omega
theorem nameF_more : ∀ (f : Nat) (l : List Int) (k : Nat), l.length - k <= f -> nameF f l k = nameF (l.length - k) l k
 | 0, l, k, h => by rw [show l.length - k = 0 by omega]
 | f + 1, l, k, h => by
   by_cases hi : inN l k = true
   ·have hk := inN_lt hi
    have ho := oneN_le hi
    obtain ⟨m, hm⟩ : ∃ m, l.length - k = m + 1 := ⟨l.length - k - 1, by omega⟩
    rw [hm]
    unfold nameF
    rw [if_pos hi, if_pos hi, nameF_more f _ _ (by omega), nameF_more m _ _ (by omega)]
   ·obtain ⟨m, hm⟩ : ∃ m, l.length - k = m := ⟨_, rfl⟩
    rw [hm]
    cases m with
    | zero => unfold nameF; rw [if_neg hi]
    | succ m => unfold nameF; rw [if_neg hi, if_neg hi]
termination_by f => f
theorem name_yes {l : List Int} {k : Nat} (h : inN l k = true) : name l k = ((oneN l k).1 :: (name l (oneN l k).2).1, (name l (oneN l k).2).2) := by
 have hk := inN_lt h
 have ho := oneN_le h
 obtain ⟨m, hm⟩ : ∃ m, l.length = m + 1 := ⟨l.length - 1, by omega⟩
 unfold name
 rw [nameF_more l.length l (oneN l k).2 (by omega), <- nameF_more m l (oneN l k).2 (by omega)]
 rw [hm]
 conv => lhs; unfold nameF
 rw [if_pos h]
theorem name_no {l : List Int} {k : Nat} (h : inN l k = false) : name l k = ([], k) := by
 unfold name
 cases hl : l.length with
 | zero => unfold nameF; rfl
 | succ m => unfold nameF; rw [if_neg (by rw [h]; decide)]
end Tk
end Go.Proofs.YtllmjggejbdpcaaGreatDoor
namespace Go.Proofs.YtllmjggejbdpcaaGreatDoor
namespace Tk
open Ru
def cmtF : Nat -> List Int -> Nat -> Nat
 | 0, _, j => j
 | f + 1, l, j => if j < l.length /\ ¬ (g l j = 42 /\ at' l (j + 1) = 47) then cmtF f l (j + 1) else j
def cmtE (l : List Int) (j : Nat) : Nat := cmtF l.length l j
def cmt (l : List Int) (k : Nat) : Nat := min (cmtE l (k + 2) + 2) l.length
def opn (l : List Int) (k : Nat) : Bool := decide (at' l k = 47 /\ at' l (k + 1) = 42)
def spF : Nat -> List Int -> Nat -> Bool -> Nat × Bool
 | 0, _, k, b => (k, b)
 | f + 1, l, k, b => if whiB (at' l k) = true then spF f l (k + 1) true else if opn l k = true then spF f l (cmt l k) b else (k, b)
def sp (l : List Int) (k : Nat) (b : Bool) : Nat × Bool := spF l.length l k b
theorem whiB_out : whiB (-1) = false := by decide
theorem whi_lt {l : List Int} {k : Nat} (h : whiB (at' l k) = true) : k < l.length := at_lt (fun e => by rw [e, whiB_out] at h; cases h)
theorem opn_lt {l : List Int} {k : Nat} (h : opn l k = true) : k + 1 < l.length := by
 unfold opn at h
 have := of_decide_eq_true h
 exact at_lt (fun e => by omega)
theorem cmtF_le : ∀ (f : Nat) (l : List Int) (j : Nat), j <= cmtF f l j /\ (j <= l.length -> cmtF f l j <= l.length)
 | 0, _, _ => by unfold cmtF; simp
 | f + 1, l, j => by
   unfold cmtF
   split
   ·have := cmtF_le f l (j + 1); omega
   ·simp
theorem cmtF_more : ∀ (f : Nat) (l : List Int) (j : Nat), l.length - j <= f -> cmtF f l j = cmtF (l.length - j) l j
 | 0, l, k, h => by rw [show l.length - k = 0 by omega]
 | f + 1, l, k, h => by
   by_cases hi : k < l.length /\ ¬ (g l k = 42 /\ at' l (k + 1) = 47)
   ·obtain ⟨m, hm⟩ : ∃ m, l.length - k = m + 1 := ⟨l.length - k - 1, by omega⟩
    rw [hm]
    unfold cmtF
    rw [if_pos hi, if_pos hi, cmtF_more f _ _ (by omega), cmtF_more m _ _ (by omega)]
   ·obtain ⟨m, hm⟩ : ∃ m, l.length - k = m := ⟨_, rfl⟩
    rw [hm]
    cases m with
    | zero => unfold cmtF; rw [if_neg hi]
    | succ m => unfold cmtF; rw [if_neg hi, if_neg hi]
termination_by f => f
theorem cmtE_yes {l : List Int} {j : Nat} (h : j < l.length /\ ¬ (g l j = 42 /\ at' l (j + 1) = 47)) : cmtE l j = cmtE l (j + 1) := by
 obtain ⟨m, hm⟩ : ∃ m, l.length = m + 1 := ⟨l.length - 1, by omega⟩
 unfold cmtE
 rw [cmtF_more l.length l (j + 1) (by omega), <- cmtF_more m l (j + 1) (by omega), hm]
 conv => lhs; unfold cmtF
 rw [if_pos h]
theorem cmtE_no {l : List Int} {j : Nat} (h : ¬ (j < l.length /\ ¬ (g l j = 42 /\ at' l (j + 1) = 47))) : cmtE l j = j := by
 unfold cmtE
 cases hl : l.length with
 | zero => rfl
 | succ m => conv => lhs; unfold cmtF
             rw [if_neg h]
theorem cmt_le {l : List Int} {k : Nat} (h : opn l k = true) : k + 2 <= cmt l k /\ cmt l k <= l.length := by
 have h1 := opn_lt h
 have h2 := cmtF_le l.length l (k + 2)
 unfold cmt cmtE
 omega
theorem spF_more : ∀ (f : Nat) (l : List Int) (k : Nat) (b : Bool), l.length - k <= f -> spF f l k b = spF (l.length - k) l k b
 | 0, l, k, b, h => by rw [show l.length - k = 0 by omega]
 | f + 1, l, k, b, h => by
   obtain ⟨m, hm⟩ : ∃ m, l.length - k = m := ⟨_, rfl⟩
   rw [hm]
   by_cases hw : whiB (at' l k) = true
   ·have hk := whi_lt hw
    cases m with
    | zero => omega
    | succ m =>
      unfold spF
      rw [if_pos hw, if_pos hw, spF_more f _ _ _ (by omega), spF_more m _ _ _ (by omega)]
   ·by_cases ho : opn l k = true
    ·have hk := opn_lt ho
     have hc := cmt_le ho
     cases m with
     | zero => omega
     | succ m =>
       unfold spF
       rw [if_neg hw, if_pos ho, if_neg hw, if_pos ho, spF_more f _ _ _ (by omega), spF_more m _ _ _ (by omega)]
    ·cases m with
     | zero => unfold spF; rw [if_neg hw, if_neg ho]
     | succ m => unfold spF; rw [if_neg hw, if_neg ho, if_neg hw, if_neg ho]
termination_by f => f
theorem sp_white {l : List Int} {k : Nat} {b : Bool} (h : whiB (at' l k) = true) : sp l k b = sp l (k + 1) true := by
 have hk := whi_lt h
 obtain ⟨m, hm⟩ : ∃ m, l.length = m + 1 := ⟨l.length - 1, by omega⟩
 unfold sp
 rw [spF_more l.length l (k + 1) true (by omega), <- spF_more m l (k + 1) true (by omega), hm]
 conv => lhs; unfold spF
 rw [if_pos h]
theorem sp_opn {l : List Int} {k : Nat} {b : Bool} (h : whiB (at' l k) = false) (ho : opn l k = true) : sp l k b = sp l (cmt l k) b := by
 have hk := opn_lt ho
 have hc := cmt_le ho
 obtain ⟨m, hm⟩ : ∃ m, l.length = m + 1 := ⟨l.length - 1, by omega⟩
 unfold sp
 rw [spF_more l.length l (cmt l k) b (by omega), <- spF_more m l (cmt l k) b (by omega), hm]
 conv => lhs; unfold spF
 rw [if_neg (by rw [h]; decide), if_pos ho]
theorem sp_no {l : List Int} {k : Nat} {b : Bool} (h : whiB (at' l k) = false) (ho : opn l k = false) : sp l k b = (k, b) := by
 unfold sp
 cases hl : l.length with
 | zero => rfl
 | succ m => conv => lhs; unfold spF
             rw [if_neg (by rw [h]; decide), if_neg (by rw [ho]; decide)]
theorem spF_le : ∀ (f : Nat) (l : List Int) (k : Nat) (b : Bool), k <= (spF f l k b).1 /\ (k <= l.length -> (spF f l k b).1 <= l.length)
 | 0, _, _, _ => by unfold spF; simp
 | f + 1, l, k, b => by
   unfold spF
   split
   ·rename_i hw
    have := whi_lt hw
    have := spF_le f l (k + 1) true
    omega
   ·split
    ·rename_i ho
     have := cmt_le ho
     have := spF_le f l (cmt l k) b
     omega
    ·simp
theorem sp_le (l : List Int) (k : Nat) (b : Bool) (h : k <= l.length) : k <= (sp l k b).1 /\ (sp l k b).1 <= l.length := by
 have := spF_le l.length l k b
 unfold sp
 exact ⟨this.1, this.2 h⟩
def push (c : Int) (r : Int × List Int × Nat) : Int × List Int × Nat := (r.1, c :: r.2.1, r.2.2)
def qF : Nat -> List Int -> Int -> Nat -> Int × List Int × Nat
 | 0, l, _, k => (6, [], min (k + 1) l.length)
 | f + 1, l, e, k =>
   if ¬ (k < l.length /\ g l k ≠ e) then (6, [], min (k + 1) l.length)
   else if g l k = 10 then (7, [], k)
   else if esc l k = true then push (meant l k).1 (qF f l e (meant l k).2)
   else if g l k = 92 then qF f l e (k + 2)
   else push (g l k) (qF f l e (k + 1))
def qq (l : List Int) (e : Int) (k : Nat) : Int × List Int × Nat := qF l.length l e k
theorem qF_more : ∀ (f : Nat) (l : List Int) (e : Int) (k : Nat), l.length - k <= f -> qF f l e k = qF (l.length - k) l e k
 | 0, l, e, k, h => by rw [show l.length - k = 0 by omega]
 | f + 1, l, e, k, h => by
   obtain ⟨m, hm⟩ : ∃ m, l.length - k = m := ⟨_, rfl⟩
   rw [hm]
   by_cases h0 : ¬ (k < l.length /\ g l k ≠ e)
   ·cases m with
    | zero => unfold qF; rw [if_pos h0]
    | succ m => unfold qF; rw [if_pos h0, if_pos h0]
   ·cases m with
    | zero => omega
    | succ m =>
      unfold qF
      rw [if_neg h0, if_neg h0]
      by_cases h1 : g l k = 10
      ·rw [if_pos h1, if_pos h1]
      ·rw [if_neg h1, if_neg h1]
       by_cases h2 : esc l k = true
       ·have hl := meant_le (esc_lt h2).1
        rw [if_pos h2, if_pos h2, qF_more f _ _ _ (by omega), qF_more m _ _ _ (by omega)]
       ·rw [if_neg h2, if_neg h2]
        by_cases h3 : g l k = 92
        ·rw [if_pos h3, if_pos h3, qF_more f _ _ _ (by omega), qF_more m _ _ _ (by omega)]
        ·rw [if_neg h3, if_neg h3, qF_more f _ _ _ (by omega), qF_more m _ _ _ (by omega)]
termination_by f => f
theorem qq_end {l : List Int} {e : Int} {k : Nat} (h : ¬ (k < l.length /\ g l k ≠ e)) : qq l e k = (6, [], min (k + 1) l.length) := by
 unfold qq
 cases hl : l.length with
 | zero => conv => lhs; unfold qF
           rw [hl]
 | succ m => conv => lhs; unfold qF
             rw [if_pos h, hl]
theorem qq_step {l : List Int} {e : Int} {k : Nat} (h : k < l.length /\ g l k ≠ e) : qq l e k =
 if g l k = 10 then (7, [], k)
 else if esc l k = true then push (meant l k).1 (qq l e (meant l k).2)
 else if g l k = 92 then qq l e (k + 2)
 else push (g l k) (qq l e (k + 1)) := by
 obtain ⟨m, hm⟩ : ∃ m, l.length = m + 1 := ⟨l.length - 1, by omega⟩
 have mo : ∀ j, k < j -> qF l.length l e j = qF m l e j := fun j hj => by rw [qF_more l.length l e j (by omega), qF_more m l e j (by omega)]
 unfold qq
 by_cases h1 : g l k = 10
 ·rw [if_pos h1, hm]; conv => lhs; unfold qF
  rw [if_neg (fun hh => hh h), if_pos h1]
 ·rw [if_neg h1]
  by_cases h2 : esc l k = true
  ·have hl := meant_le (esc_lt h2).1
   rw [if_pos h2, mo (meant l k).2 (by omega), hm]; conv => lhs; unfold qF
   rw [if_neg (fun hh => hh h), if_neg h1, if_pos h2]
  ·rw [if_neg h2]
   by_cases h3 : g l k = 92
   ·rw [if_pos h3, mo (k + 2) (by omega), hm]; conv => lhs; unfold qF
    rw [if_neg (fun hh => hh h), if_neg h1, if_neg h2, if_pos h3]
   ·rw [if_neg h3, mo (k + 1) (by omega), hm]; conv => lhs; unfold qF
    rw [if_neg (fun hh => hh h), if_neg h1, if_neg h2, if_neg h3]
end Tk
end Go.Proofs.YtllmjggejbdpcaaGreatDoor
namespace Go.Proofs.YtllmjggejbdpcaaGreatDoor
open Go.RowKit
namespace Ru
def wr (l : List Int) : List Int := l.flatMap Lib.encodeRuneZ
theorem wr_snoc (l : List Int) (c : Int) : wr (l ++ [c]) = wr l ++ Lib.encodeRuneZ c := by unfold wr; simp
theorem wr_len (l : List Int) : (wr l).length <= 4 * l.length := by
 induction l with
 | nil => simp [wr]
 | cons c t ih =>
   have := (Lib.encodeRuneZ_length c).2
   unfold wr at *
   rw [List.flatMap_cons, List.length_append, List.length_cons]
   omega
theorem wr_by (l : List Int) : By (wr l) := fun c hc => by
 unfold wr at hc
 obtain ⟨x, _, hx⟩ := List.mem_flatMap.1 hc
 exact Lib.encodeRuneZ_byte x c hx
end Ru
theorem cells_enc (c : Int) : Lib.runeCells c = nums .u8 (Lib.encodeRuneZ c) := rfl
def WriteAt (w : World) (l : List Int) (v3 v11 : Value) (wr : World) : Prop :=
 ∃ k : Nat, k <= l.length /\ v11 = .int .i64 k /\ wr.ownsRow w.heap.size 5 1 v3 (Ru.wr (l.take k)).length (nums .u8 (Ru.wr (l.take k))) /\ Below w.heap.size w wr
namespace Tk
def str (l : List Int) : ByteArray := strOfNums (Ru.wr l)
end Tk
theorem made_form {k : IntKind} {E : TypeId} {l : List Int} {w : World} {e : Ending} {w' : World} (h : Made k E l w e w') : ∃ (A : Option Addr) (cap : Nat), e = .returned (.slice A l.length cap) /\ l.length <= cap /\ Bs w' w'.heap.size k A l /\ Below w.heap.size w w' := by
 obtain ⟨v, rfl, hown, hb⟩ := h
 rcases hown.2 with ⟨rfl, h0⟩ | ⟨x, cap, cur, rfl, _, _, hc, _⟩
 ·exact ⟨none, 0, by rw [h0], by omega, fun hl => by omega, hb⟩
 ·exact ⟨_, cap, rfl, hc, Bs.of_own hown, hb⟩
theorem own_bs {w : World} {B : Nat} {k : IntKind} {E : TypeId} {l : List Int} {v : Value} (h : w.ownsRow B E 1 v l.length (nums k l)) : ∃ A cap, v = .slice A l.length cap /\ l.length <= cap /\ Bs w w.heap.size k A l := by
 rcases h.2 with ⟨rfl, h0⟩ | ⟨x, cap, cur, rfl, _, _, hc, _⟩
 ·exact ⟨none, 0, by rw [h0], by omega, fun hl => by omega⟩
 ·exact ⟨_, cap, rfl, hc, Bs.of_own h⟩
theorem conv_bytes {w : World} {B : Nat} {A : Option Addr} {l : List Int} (c : Nat) (h : Bs w B .u8 A l) : (convert 22 9 (.slice A l.length c)).run Tryz.prog w = .ok (.string (strOfNums l)) w := by
 by_cases h0 : 0 < l.length
 ·obtain ⟨b, off, rfl, _, hp⟩ := h h0
  exact run_convert_bytes_arg w 22 5 Tryz.underlying22 Tryz.underlying5 b off l.length c l rfl hp 9 Tryz.underlying9
 ·have hl : l = [] := List.eq_nil_of_length_eq_zero (by omega)
  subst hl
  cases A with
  | none => exact run_convert_bytes_nil w 22 5 Tryz.underlying22 Tryz.underlying5 0 c 9 Tryz.underlying9
  | some a => exact run_convert_bytes_back w 22 9 5 a c [] Tryz.underlying22 Tryz.underlying5 Tryz.underlying9 (fun j hj => by cases hj)
namespace Tk
open Ru
def ascL (l : List Int) (k : Nat) : List Int := (l.drop k).takeWhile fun c => decide (c < 128)
theorem ascL_len (l : List Int) (k : Nat) : (ascL l k).length <= l.length - k := by
 unfold ascL
 have h := (List.takeWhile_sublist (l := l.drop k) (fun c => decide (c < 128))).length_le
 rw [List.length_drop] at h
 exact h
def u8 (c : Int) : UInt8 := UInt8.ofNat c.toNat
end Tk
namespace Fx
def at' (l : List UInt8) (k : Nat) : UInt8 := l.getD k 0
def isD (c : UInt8) : Bool := decide (48 <= (c.toNat : Int) /\ (c.toNat : Int) <= 57)
def sgn (l : List UInt8) (k : Nat) : Nat := if (at' l k = 43 ∨ at' l k = 45) then k + 1 else k
def dig (l : List UInt8) (k : Nat) : Nat := k + ((l.drop k).takeWhile isD).length
theorem get_at (s : ByteArray) (k : Nat) (h : k < s.size) : at' s.data.toList k = s[k] := by
 unfold at'
 have h' : k < s.data.toList.length := by simpa using h
 rw [List.getD_eq_getElem?_getD, List.getElem?_eq_getElem h']; rfl
theorem get_past (s : ByteArray) (k : Nat) (h : s.size <= k) : at' s.data.toList k = 0 := by
 unfold at'
 have h' : s.data.toList.length <= k := by simpa using h
 rw [List.getD_eq_getElem?_getD, List.getElem?_eq_none h']; rfl
theorem dig_no (l : List UInt8) (k : Nat) (h : isD (at' l k) = false) : dig l k = k := by
 unfold at' at h
 unfold dig
 by_cases hk : k < l.length
 ·rw [List.drop_eq_getElem_cons hk, List.takeWhile_cons]
  rw [List.getD_eq_getElem?_getD, List.getElem?_eq_getElem hk] at h
  simp at h; simp [h]
 ·rw [List.drop_eq_nil_of_le (by omega)]; rfl
theorem isD_zero : isD 0 = false := by decide
theorem dig_yes (l : List UInt8) (k : Nat) (h : isD (at' l k) = true) : dig l k = dig l (k + 1) := by
 unfold at' at h
 have hk : k < l.length := by
  by_cases hk : k < l.length
  ·exact hk
  ·rw [List.getD_eq_getElem?_getD, List.getElem?_eq_none (by omega)] at h; exact absurd h (by decide)
 unfold dig
 rw [List.drop_eq_getElem_cons hk, List.takeWhile_cons]
 rw [List.getD_eq_getElem?_getD, List.getElem?_eq_getElem hk] at h
 simp at h; simp [h]; omega
theorem dig_lo (l : List UInt8) (k : Nat) : k <= dig l k := by unfold dig; omega
theorem dig_hi (l : List UInt8) (k : Nat) (h : k <= l.length) : dig l k <= l.length := by
 unfold dig
 have h1 : ((l.drop k).takeWhile isD).length <= (l.drop k).length := List.takeWhile_sublist .. |>.length_le
 simp at h1; omega
theorem isD_of {c : UInt8} (h : 48 <= (c.toNat : Int)) (h' : (c.toNat : Int) <= 57) : isD c = true := by
 unfold isD; exact decide_eq_true ⟨h, h'⟩
theorem isD_not {c : UInt8} (h : (c.toNat : Int) < 48 ∨ 57 < (c.toNat : Int)) : isD c = false := by
 unfold isD; exact decide_eq_false (by omega)
end Fx
theorem byte_eq {c : UInt8} {n : Nat} (hn : n < 256) : ((c.toNat : Int) == (n : Int)) = true ↔ c = UInt8.ofNat n := by
 rw [beq_iff_eq]
 constructor
 ·intro h; apply UInt8.toNat_inj.1; rw [UInt8.toNat_ofNat']; omega
 ·rintro rfl; rw [UInt8.toNat_ofNat']; omega
namespace Fx
def spS (l : List UInt8) : Nat := sgn l 0
def spW (l : List UInt8) : Nat := dig l (spS l)
def spDof (l : List UInt8) (w : Nat) : Nat := if at' l w = 46 /\ w + 1 < dig l (w + 1) then dig l (w + 1) else w
def spD (l : List UInt8) : Nat := spDof l (spW l)
def spEof (l : List UInt8) (d : Nat) : Nat := if (at' l d = 101 ∨ at' l d = 69) /\ sgn l (d + 1) < dig l (sgn l (d + 1)) then dig l (sgn l (d + 1)) else d
def spE (l : List UInt8) : Nat := spEof l (spD l)
theorem sgn_lo (l : List UInt8) (k : Nat) : k <= sgn l k := by unfold sgn; split <;> omega
theorem at_zero {l : List UInt8} {k : Nat} (h : ¬ k < l.length) : at' l k = 0 := by
 unfold at'; rw [List.getD_eq_getElem?_getD, List.getElem?_eq_none (by omega)]; rfl
theorem sgn_hi (l : List UInt8) (k : Nat) (h : k <= l.length) : sgn l k <= l.length := by
 unfold sgn
 by_cases hk : k < l.length
 ·split <;> omega
 ·rw [at_zero hk]; simp; exact h
theorem spS_hi (l : List UInt8) : spS l <= l.length := sgn_hi l 0 (Nat.zero_le _)
theorem spS_one (l : List UInt8) : spS l <= 1 := by unfold spS sgn; split <;> omega
theorem spW_hi (l : List UInt8) : spW l <= l.length := dig_hi l _ (spS_hi l)
theorem spW_lo (l : List UInt8) : spS l <= spW l := dig_lo l _
theorem spDof_lo (l : List UInt8) (w : Nat) : w <= spDof l w := by unfold spDof; split <;> omega
theorem spDof_hi (l : List UInt8) (w : Nat) (h : w <= l.length) : spDof l w <= l.length := by
 unfold spDof; split
 ·rename_i hc
  by_cases hw : w < l.length
  ·exact dig_hi l _ (by omega)
  ·rw [at_zero hw] at hc; exact absurd hc.1 (by decide)
 ·exact h
theorem spD_hi (l : List UInt8) : spD l <= l.length := spDof_hi l _ (spW_hi l)
theorem spD_lo (l : List UInt8) : spW l <= spD l := spDof_lo l _
theorem spEof_lo (l : List UInt8) (w : Nat) : w <= spEof l w := by
 unfold spEof; split
 ·have := dig_lo l (sgn l (w + 1)); have := sgn_lo l (w + 1); omega
 ·omega
theorem spEof_hi (l : List UInt8) (w : Nat) (h : w <= l.length) : spEof l w <= l.length := by
 unfold spEof; split
 ·rename_i hc
  by_cases hw : w < l.length
  ·exact dig_hi l _ (sgn_hi l _ (by omega))
  ·rw [at_zero hw] at hc; exact absurd hc.1 (by decide)
 ·exact h
theorem spE_hi (l : List UInt8) : spE l <= l.length := spEof_hi l _ (spD_hi l)
theorem spE_lo (l : List UInt8) : spD l <= spE l := spEof_lo l _
inductive WayD (s : ByteArray) (w d : Nat) : Prop
 | frac (h : w < s.size) (hb : ((s[w].toNat : Int) == 46) = true) (hd : d = dig s.data.toList (w + 1)) (hl : w + 1 < d)
 | point (h : w < s.size) (hb : ((s[w].toNat : Int) == 46) = true) (hd : dig s.data.toList (w + 1) = w + 1) (hw : d = w)
 | other (h : w < s.size) (hb : ((s[w].toNat : Int) == 46) = false) (hw : d = w)
 | past (h : ¬ w < s.size) (hw : d = w)
theorem wayD (s : ByteArray) (w : Nat) : WayD s w (spDof s.data.toList w) := by
 by_cases h : w < s.size
 ·have hg := get_at s w h
  by_cases hb : s[w] = 46
  ·have hb' : ((s[w].toNat : Int) == 46) = true := by rw [hb]; rfl
   by_cases hd : w + 1 < dig s.data.toList (w + 1)
   ·have e : spDof s.data.toList w = dig s.data.toList (w + 1) := by unfold spDof; rw [hg, hb, if_pos ⟨rfl, hd⟩]
    exact .frac h hb' e (by omega)
   ·have e : spDof s.data.toList w = w := by unfold spDof; rw [if_neg (fun c => hd c.2)]
    exact .point h hb' (by have := dig_lo s.data.toList (w + 1); omega) e
  ·have hb' : ((s[w].toNat : Int) == 46) = false := by
    rw [Bool.eq_false_iff]; intro hh; exact hb ((byte_eq (n := 46) (by decide)).1 hh)
   have e : spDof s.data.toList w = w := by unfold spDof; rw [hg, if_neg (fun c => hb c.1)]
   exact .other h hb' e
 ·have e : spDof s.data.toList w = w := by unfold spDof; rw [get_past s w (by omega), if_neg (fun c => absurd c.1 (by decide))]
  exact .past h e
inductive WayE (s : ByteArray) (d e : Nat) : Prop
 | yes (h : d < s.size) (hb : ((s[d].toNat : Int) == 101) = true ∨ (((s[d].toNat : Int) == 101) = false /\ ((s[d].toNat : Int) == 69) = true)) (he : e = dig s.data.toList (sgn s.data.toList (d + 1))) (hl : sgn s.data.toList (d + 1) < e)
 | bare (h : d < s.size) (hb : ((s[d].toNat : Int) == 101) = true ∨ (((s[d].toNat : Int) == 101) = false /\ ((s[d].toNat : Int) == 69) = true)) (hd : dig s.data.toList (sgn s.data.toList (d + 1)) = sgn s.data.toList (d + 1)) (he : e = d)
 | other (h : d < s.size) (hb : ((s[d].toNat : Int) == 101) = false) (hc : ((s[d].toNat : Int) == 69) = false) (he : e = d)
 | past (h : ¬ d < s.size) (he : e = d)
theorem wayE (s : ByteArray) (d : Nat) : WayE s d (spEof s.data.toList d) := by
 by_cases h : d < s.size
 ·have hg := get_at s d h
  by_cases hb : s[d] = 101 ∨ s[d] = 69
  ·have hb' : ((s[d].toNat : Int) == 101) = true ∨ (((s[d].toNat : Int) == 101) = false /\ ((s[d].toNat : Int) == 69) = true) := by
    rcases hb with hb | hb
    ·left; rw [hb]; rfl
    ·right; rw [hb]; exact ⟨rfl, rfl⟩
   by_cases hd : sgn s.data.toList (d + 1) < dig s.data.toList (sgn s.data.toList (d + 1))
   ·have e : spEof s.data.toList d = dig s.data.toList (sgn s.data.toList (d + 1)) := by unfold spEof; rw [hg, if_pos ⟨hb, hd⟩]
    exact .yes h hb' e (by omega)
   ·have e : spEof s.data.toList d = d := by unfold spEof; rw [if_neg (fun c => hd c.2)]
    exact .bare h hb' (by have := dig_lo s.data.toList (sgn s.data.toList (d + 1)); omega) e
  ·have hb1 : ((s[d].toNat : Int) == 101) = false := by
    rw [Bool.eq_false_iff]; intro hh; exact hb (Or.inl ((byte_eq (n := 101) (by decide)).1 hh))
   have hb2 : ((s[d].toNat : Int) == 69) = false := by
    rw [Bool.eq_false_iff]; intro hh; exact hb (Or.inr ((byte_eq (n := 69) (by decide)).1 hh))
   have e : spEof s.data.toList d = d := by unfold spEof; rw [hg, if_neg (fun c => hb c.1)]
   exact .other h hb1 hb2 e
 ·have e : spEof s.data.toList d = d := by unfold spEof; rw [get_past s d (by omega), if_neg (fun c => absurd c.1 (by decide))]
  exact .past h e
end Fx
namespace Fx
def len (l : List UInt8) : Nat := if spD l = spS l then 0 else spE l
theorem len_hi (l : List UInt8) : len l <= l.length := by unfold len; split; omega; exact spE_hi l
end Fx
namespace Fx
theorem at_lt {l : List UInt8} {i : Nat} (h : isD (at' l i) = true) : i < l.length := by
 by_cases hi : i < l.length
 ·exact hi
 ·rw [at_zero hi] at h; exact absurd h (by decide)
end Fx
end Go.Proofs.YtllmjggejbdpcaaGreatDoor
namespace Go.Proofs.YtllmjggejbdpcaaGreatDoor
namespace Fx
def dv (c : UInt8) : Nat := c.toNat - 48
def valFrom (acc : Nat) (l : List UInt8) : Nat := l.foldl (fun a c => a * 10 + dv c) acc
theorem dv_le {c : UInt8} (h : isD c = true) : dv c <= 9 := by
 unfold isD at h; have := of_decide_eq_true h; unfold dv; omega
theorem digitVal_of {c : UInt8} (h : isD c = true) : Lib.digitVal c = some (dv c) := by
 unfold isD at h; have := of_decide_eq_true h; unfold Lib.digitVal dv; rw [if_pos (by omega)]
theorem decFrom_val (l : List UInt8) : ∀ acc, (∀ c ∈ l, isD c = true) -> Lib.decFrom acc l = some (valFrom acc l) := by
 induction l with
 | nil => intro acc _; rfl
 | cons a t ih =>
   intro acc h
   rw [Lib.decFrom, digitVal_of (h a (by simp))]
   exact ih _ (fun c hc => h c (by simp [hc]))
theorem atoi_val {l : List UInt8} (hn : l ≠ []) (h : ∀ c ∈ l, isD c = true) : Lib.atoi l = some ((valFrom 0 l : Nat) : Int) := by
 match l, hn with
 | a :: t, _ =>
   have ha : isD a = true := h a (by simp)
   have h45 : (a == 45) = false := by rw [beq_eq_false_iff_ne]; rintro rfl; exact absurd ha (by decide)
   have h43 : (a == 43) = false := by rw [beq_eq_false_iff_ne]; rintro rfl; exact absurd ha (by decide)
   unfold Lib.atoi
   simp only [h45, h43, Bool.false_eq_true, if_false]
   unfold Lib.decNat
   rw [decFrom_val _ _ h]
   rfl
theorem valFrom_lt (l : List UInt8) : ∀ acc, (∀ c ∈ l, isD c = true) -> valFrom acc l < (acc + 1) * 10 ^ l.length := by
 induction l with
 | nil => intro acc _; unfold valFrom; simp
 | cons a t ih =>
   intro acc h
   have h1 := ih (acc * 10 + dv a) (fun c hc => h c (by simp [hc]))
   have h2 := dv_le (h a (by simp))
   have h3 : (acc * 10 + dv a + 1) * 10 ^ t.length <= ((acc + 1) * 10) * 10 ^ t.length := Nat.mul_le_mul_right _ (by omega)
   have h4 : ((acc + 1) * 10) * 10 ^ t.length = (acc + 1) * 10 ^ (t.length + 1) := by rw [Nat.pow_succ, Nat.mul_assoc, Nat.mul_comm 10]
   have h5 : valFrom acc (a :: t) = valFrom (acc * 10 + dv a) t := rfl
   rw [h5, List.length_cons, <- h4]
   omega
def seg (l : List UInt8) (a b : Nat) : List UInt8 := (l.drop a).take (b - a)
theorem seg_dig (l : List UInt8) (a : Nat) : seg l a (dig l a) = (l.drop a).takeWhile isD := by
 unfold seg dig
 rw [show a + ((l.drop a).takeWhile isD).length - a = ((l.drop a).takeWhile isD).length by omega]
 exact (List.prefix_iff_eq_take.1 (List.takeWhile_prefix isD)).symm
theorem seg_isD (l : List UInt8) (a : Nat) : ∀ c ∈ seg l a (dig l a), isD c = true := by
 rw [seg_dig]; intro c hc; exact List.all_eq_true.1 List.all_takeWhile c hc
theorem seg_len {l : List UInt8} {a b : Nat} (h : b <= l.length) : (seg l a b).length = b - a := by
 unfold seg; rw [List.length_take, List.length_drop]; omega
theorem seg_get (l : List UInt8) {a b i : Nat} (h : a + i < b) : (seg l a b)[i]? = l[a + i]? := by
 unfold seg; rw [List.getElem?_take_of_lt (by omega), List.getElem?_drop]
structure Sc where
 d : List Nat
 pt : Nat
 bh : Bool
 ex : Nat
 ed : Nat
 en : Bool
 ie : Bool
def step (t : Sc) (c : UInt8) : Sc :=
 if c = 101 ∨ c = 69 then { t with ie := true }
 else if t.ie = true /\ c = 45 then { t with en := true }
 else if c = 46 then { t with bh := true }
 else if isD c = true /\ t.ie = true then { t with ed := t.ed + 1, ex := if t.ex < 999999 then t.ex * 10 + dv c else t.ex }
 else if isD c = true then { t with d := t.d ++ [dv c], pt := if t.bh then t.pt else t.pt + 1 }
 else t
def sc0 : Sc := ⟨[], 0, false, 0, 0, false, false⟩
def scan (l : List UInt8) : Sc := l.foldl step sc0
def dgt (l : List UInt8) (place : Nat) : Nat :=
 if spS l + place < spW l then dv (at' l (spS l + place))
 else if spS l + place + 1 < spD l then dv (at' l (spS l + place + 1)) else 0
def digs (l : List UInt8) : List Nat := (seg l (spS l) (spW l)).map dv ++ (seg l (spW l + 1) (spD l)).map dv
def place0 (l : List UInt8) : Nat := spW l - spS l
def fromE (l : List UInt8) : Nat := sgn l (spD l + 1)
def expMag (l : List UInt8) : Nat := if spE l - fromE l <= 6 then valFrom 0 (seg l (fromE l) (spE l)) else 999999
def expo (l : List UInt8) : Int := if spE l = spD l then 0 else if at' l (spD l + 1) = 45 then -(expMag l : Int) else expMag l
theorem at_eq {l : List UInt8} {i : Nat} (h : i < l.length) : l[i]? = some (at' l i) := by
 unfold at'; rw [List.getD_eq_getElem?_getD, List.getElem?_eq_getElem h]; rfl
theorem spD_case (l : List UInt8) : spD l = spW l ∨ (at' l (spW l) = 46 /\ spW l + 1 < spD l /\ spD l = dig l (spW l + 1)) := by
 unfold spD spDof
 split
 ·rename_i h; exact Or.inr ⟨h.1, h.2, rfl⟩
 ·exact Or.inl rfl
theorem spE_case (l : List UInt8) : spE l = spD l ∨ ((at' l (spD l) = 101 ∨ at' l (spD l) = 69) /\ fromE l < spE l /\ spE l = dig l (fromE l)) := by
 unfold spE spEof fromE
 split
 ·rename_i h; exact Or.inr ⟨h.1, h.2, rfl⟩
 ·exact Or.inl rfl
def sc1 (l : List UInt8) : Sc := ⟨digs l, place0 l, decide (spW l < spD l), 0, 0, false, false⟩
theorem expMag_bd (l : List UInt8) : expMag l <= 999999 := by
 unfold expMag
 split
 ·rename_i h6
  rcases spE_case l with h | ⟨h1, h2, h3⟩
  ·have : spD l + 1 <= fromE l := sgn_lo l _
   have e : seg l (fromE l) (spE l) = [] := by unfold seg; rw [show spE l - fromE l = 0 by omega]; rfl
   rw [e]; decide
  ·have hD : ∀ c ∈ seg l (fromE l) (spE l), isD c = true := by rw [h3]; exact seg_isD l _
   have hv := valFrom_lt _ 0 hD
   rw [seg_len (spE_hi l)] at hv
   have hp : 10 ^ (spE l - fromE l) <= 10 ^ 6 := Nat.pow_le_pow_right (by decide) h6
   omega
 ·omega
theorem expo_bd (l : List UInt8) : -999999 <= expo l /\ expo l <= 999999 := by
 have := expMag_bd l
 unfold expo; split
 ·omega
 ·split <;> omega
def V (f : Nat -> Nat) : Nat -> Nat
 | 0 => 0
 | n + 1 => V f n * 10 + f n
theorem V_mono (f : Nat -> Nat) (a : Nat) : ∀ n, V f a <= V f (a + n) := by
 intro n
 induction n with
 | zero => exact Nat.le_refl _
 | succ n ih => show _ <= V f (a + n) * 10 + _; omega
theorem V_zero (f : Nat -> Nat) (a : Nat) (h0 : V f a = 0) (hf : ∀ i, a <= i -> f i = 0) : ∀ n, V f (a + n) = 0 := by
 intro n
 induction n with
 | zero => exact h0
 | succ n ih => show V f (a + n) * 10 + f (a + n) = 0; rw [ih, hf _ (by omega)]
def mag (l : List UInt8) : Int := min (V (dgt l) ((place0 l : Int) + expo l + 3).toNat : Nat) 1099511627776
def num (l : List UInt8) : Int := if at' l 0 = 45 then - mag l else mag l
def isDec (l : List UInt8) : Bool := decide (len l ≠ 0 /\ len l = l.length)
theorem dig_in {l : List UInt8} {a j : Nat} (h1 : a <= j) (h2 : j < dig l a) : isD (at' l j) = true := by
 have hl : j < l.length := by
  by_cases ha : a <= l.length
  ·have := dig_hi l a ha; omega
  ·have hz : dig l a = a := dig_no l a (by rw [at_zero (by omega)]; rfl)
   omega
 refine seg_isD l a _ ?_
 have h3 : (seg l a (dig l a))[j - a]? = some (at' l j) := by
  rw [seg_get l (by omega), show a + (j - a) = j by omega, at_eq hl]
 exact List.mem_of_getElem? h3
theorem dgt_le (l : List UInt8) (i : Nat) : dgt l i <= 9 := by
 unfold dgt
 split
 ·rename_i hi
  exact dv_le (dig_in (a := spS l) (by omega) hi)
 ·split
  ·rename_i h1 h2
   rcases spD_case l with h | ⟨_, _, h⟩
   ·omega
   ·rw [h] at h2
    exact dv_le (dig_in (a := spW l + 1) (by omega) h2)
  ·omega
end Fx
end Go.Proofs.YtllmjggejbdpcaaGreatDoor
namespace Go.Proofs.YtllmjggejbdpcaaGreatDoor
open Go.RowKit
namespace Tk
open Ru
def numL (l : List Int) (k : Nat) : List UInt8 := (strOfNums (ascL l k)).data.toList
def nlen (l : List Int) (k : Nat) : Nat := Fx.len (numL l k)
def pv (t : List UInt8) : Int := if Fx.isDec t = true then Fx.num t else 0
def nval (l : List Int) (k : Nat) : Int := pv ((numL l k).take (nlen l k))
def numB (c : Int) : Bool := decide (c = 43 ∨ c = 45 ∨ c = 46 ∨ (48 <= c /\ c <= 57))
def symK (c : Int) : Int := if c = 40 ∨ c = 91 ∨ c = 123 then 12 else if c = 41 ∨ c = 93 ∨ c = 125 then 13 else 11
def rest (l : List Int) (k : Nat) : Int × ByteArray × Int × Nat :=
 if g l k = 64 /\ begs l (k + 1) = true then (4, str (name l (k + 1)).1, 0, (name l (k + 1)).2)
 else if begs l k = true then (if at' l (name l k).2 = 40 then (3, str (name l k).1, 0, (name l k).2 + 1) else (2, str (name l k).1, 0, (name l k).2))
 else if g l k = 58 then (14, ⟨#[]⟩, 0, k + 1)
 else if g l k = 59 then (15, ⟨#[]⟩, 0, k + 1)
 else if g l k = 44 then (16, ⟨#[]⟩, 0, k + 1)
 else (symK (g l k), str [g l k], 0, k + 1)
def nxt (l : List Int) (k : Nat) : Int × ByteArray × Int × Nat :=
 if g l k = 34 ∨ g l k = 39 then ((qq l (g l k) (k + 1)).1, str (qq l (g l k) (k + 1)).2.1, 0, (qq l (g l k) (k + 1)).2.2)
 else if g l k = 35 /\ (witB (at' l (k + 1)) = true ∨ esc l (k + 1) = true) then (5, str (name l (k + 1)).1, 0, (name l (k + 1)).2)
 else if numB (g l k) = true /\ 0 < nlen l k then
  (if begs l (k + nlen l k) = true then (10, str (name l (k + nlen l k)).1, nval l k, (name l (k + nlen l k)).2)
   else if at' l (k + nlen l k) = 37 then (9, ⟨#[]⟩, nval l k, k + nlen l k + 1) else (8, ⟨#[]⟩, nval l k, k + nlen l k))
 else rest l k
theorem numL_len (l : List Int) (k : Nat) : (numL l k).length <= l.length - k := by
 have h := ascL_len l k
 have h2 : (numL l k).length = (ascL l k).length := by
  unfold numL
  rw [<- Lib.size_eq, strOfNums_size]
 omega
theorem nlen_le (l : List Int) (k : Nat) (h : k <= l.length) : k + nlen l k <= l.length := by
 have h1 := Fx.len_hi (numL l k)
 have h2 := numL_len l k
 unfold nlen
 omega
theorem name_le (l : List Int) : ∀ (m k : Nat), l.length - k <= m -> k <= l.length -> k <= (name l k).2 /\ (name l k).2 <= l.length
 | m, k, hm, hk => by
   cases hI : inN l k
   ·rw [name_no hI]; exact ⟨Nat.le_refl _, hk⟩
   ·rw [name_yes hI]
    have ho := oneN_le hI
    have hlt := inN_lt hI
    match m, hm with
    | 0, hm => omega
    | m + 1, hm =>
      have ih := name_le l m (oneN l k).2 (by omega) ho.2
      simp only
      omega
theorem begs_not {l : List Int} {k : Nat} (hk : k < l.length) (h : g l k = 35 ∨ g l k = 58 ∨ g l k = 59 ∨ g l k = 44 ∨ g l k = 40 ∨ g l k = 91 ∨ g l k = 123 ∨ g l k = 41 ∨ g l k = 93 ∨ g l k = 125) : begs l k = false := by
 rw [Bool.eq_false_iff]
 intro h2
 unfold begs may esc at h2
 rw [at_in hk] at h2
 unfold begB at h2
 simp only [Bool.or_eq_true, Bool.and_eq_true, decide_eq_true_eq] at h2
 omega
def Past (l : List Int) (k : Nat) : Prop := g l k ≠ 34 /\ g l k ≠ 39 /\ (g l k = 35 -> witB (at' l (k + 1)) = false /\ esc l (k + 1) = false) /\ (numB (g l k) = true -> nlen l k = 0)
theorem nxt_past {l : List Int} {k : Nat} (h : Past l k) : nxt l k = rest l k := by
 obtain ⟨h1, h2, h3, h4⟩ := h
 unfold nxt
 rw [if_neg (by omega), if_neg (fun h => by have := h3 h.1; rw [this.1, this.2] at h; simp at h), if_neg (fun h => by have := h4 h.1; omega)]
end Tk
namespace Tk
abbrev Tok := Int × ByteArray × Int
def cells (ts : List Tok) : List Value := ts.flatMap fun t => [.int .i64 t.1, .string t.2.1, .int .i64 t.2.2]
theorem cells_len (ts : List Tok) : (cells ts).length = ts.length * 3 := by
 unfold cells
 induction ts with
 | nil => rfl
 | cons t ts ih => rw [List.flatMap_cons, List.length_append, ih, List.length_cons]; simp; omega
theorem cells_app (ts us : List Tok) : cells (ts ++ us) = cells ts ++ cells us := by unfold cells; rw [List.flatMap_append]
end Tk
end Go.Proofs.YtllmjggejbdpcaaGreatDoor
namespace Go.Proofs.YtllmjggejbdpcaaGreatDoor
namespace Tk
open Ru
theorem begs_in {l : List Int} {k : Nat} (h : begs l k = true) : inN l k = true := by
 unfold begs may at h
 unfold inN witB
 simp only [Bool.or_eq_true, Bool.and_eq_true, decide_eq_true_eq] at h ⊢
 rcases h with (h | h) | h
 ·exact .inr (.inl h)
 ·exact .inl h
 ·exact .inr (.inr (.inr h.1))
theorem name_gt {l : List Int} {k : Nat} (h : inN l k = true) : k < (name l k).2 /\ (name l k).2 <= l.length := by
 have ho := oneN_le h
 rw [name_yes h]
 have := name_le l _ (oneN l k).2 (Nat.le_refl _) ho.2
 simp only
 omega
theorem qq_le (l : List Int) (e : Int) : ∀ (m k : Nat), l.length + 1 - k <= m -> k <= l.length + 1 -> min k l.length <= (qq l e k).2.2 /\ (qq l e k).2.2 <= l.length
 | m, k, hm, hk => by
   by_cases h : k < l.length /\ g l k ≠ e
   ·rw [qq_step h]
    match m, hm with
    | 0, hm => omega
    | m + 1, hm =>
      split
      ·simp only; omega
      ·split
       ·rename_i he
        have hl := meant_le (esc_lt he).1
        have ih := qq_le l e m (meant l k).2 (by omega) (by omega)
        unfold push
        simp only
        omega
       ·split
        ·have ih := qq_le l e m (k + 2) (by omega) (by omega)
         omega
        ·have ih := qq_le l e m (k + 1) (by omega) (by omega)
         unfold push
         simp only
         omega
   ·rw [qq_end h]
    simp only
    omega
theorem rest_le {l : List Int} {k : Nat} (hk : k < l.length) : k < (rest l k).2.2.2 /\ (rest l k).2.2.2 <= l.length := by
 unfold rest
 split
 ·rename_i h
  have := name_gt (begs_in h.2)
  simp only; omega
 ·split
  ·rename_i h
   have := name_gt (begs_in h)
   split
   ·rename_i h40
    have := at_lt (l := l) (k := (name l k).2) (fun e => by rw [e] at h40; exact absurd h40 (by decide))
    simp only; omega
   ·simp only; omega
  ·split
   ·simp only; omega
   ·split
    ·simp only; omega
    ·split
     ·simp only; omega
     ·simp only; omega
theorem nxt_le {l : List Int} {k : Nat} (hk : k < l.length) : k < (nxt l k).2.2.2 /\ (nxt l k).2.2.2 <= l.length := by
 unfold nxt
 split
 ·have := qq_le l (g l k) _ (k + 1) (Nat.le_refl _) (by omega)
  simp only; omega
 ·split
  ·rename_i h
   have hin : inN l (k + 1) = true := by
    unfold inN
    rcases h.2 with h | h
    ·rw [h, Bool.or_true]
    ·rw [h, Bool.true_or]
   have := name_gt hin
   simp only; omega
  ·split
   ·rename_i h
    have hn := nlen_le l k (by omega)
    split
    ·rename_i h2
     have := name_gt (begs_in h2)
     simp only; omega
    ·split
     ·rename_i h37
      have := at_lt (l := l) (k := k + nlen l k) (fun e => by rw [e] at h37; exact absurd h37 (by decide))
      simp only; omega
     ·simp only; omega
   ·exact rest_le hk
def tokOf (r : Int × ByteArray × Int × Nat) : Tok := (r.1, r.2.1, r.2.2.1)
def spTok (b : Bool) : List Tok := if b = true then [(1, ⟨#[]⟩, 0)] else []
def scan (l : List Int) (k : Nat) : List Tok :=
 if _h : k < l.length then
  spTok (sp l k false).2 ++ (if _h2 : (sp l k false).1 < l.length then tokOf (nxt l (sp l k false).1) :: scan l (nxt l (sp l k false).1).2.2.2 else [])
 else []
termination_by l.length - k
decreasing_by
 have h1 := sp_le l k false (by omega)
 have h3 := nxt_le (by assumption)
 omega
theorem scan_on {l : List Int} {k : Nat} (h : k < l.length) (h2 : (sp l k false).1 < l.length) :
 scan l k = (spTok (sp l k false).2 ++ [tokOf (nxt l (sp l k false).1)]) ++ scan l (nxt l (sp l k false).1).2.2.2 := by
 rw [scan, dif_pos h, dif_pos h2, List.append_assoc]; rfl
theorem scan_last {l : List Int} {k : Nat} (h : k < l.length) (h2 : ¬ (sp l k false).1 < l.length) : scan l k = spTok (sp l k false).2 := by
 rw [scan, dif_pos h, dif_neg h2, List.append_nil]
theorem scan_end {l : List Int} {k : Nat} (h : ¬ k < l.length) : scan l k = [] := by
 rw [scan, dif_neg h]
theorem spTok_len (b : Bool) : (spTok b).length <= 1 := by
 unfold spTok; split <;> simp
theorem scan_len (l : List Int) : ∀ (m k : Nat), l.length - k <= m -> (scan l k).length <= 2 * (l.length - k)
 | m, k, hm => by
   by_cases h : k < l.length
   ·have h1 := sp_le l k false (by omega)
    have h5 := spTok_len (sp l k false).2
    by_cases h2 : (sp l k false).1 < l.length
    ·have h3 := nxt_le (by assumption)
     rw [scan_on h h2]
     match m, hm with
     | 0, hm => omega
     | m + 1, hm =>
       have ih := scan_len l m (nxt l (sp l k false).1).2.2.2 (by omega)
       simp only [List.length_append, List.length_cons, List.length_nil]
       omega
    ·rw [scan_last h h2]; omega
   ·rw [scan_end h]; simp
end Tk
end Go.Proofs.YtllmjggejbdpcaaGreatDoor
namespace Go.Proofs.YtllmjggejbdpcaaGreatDoor
namespace Fx
theorem at_take (l : List UInt8) {k i : Nat} (h : i < k) : at' (l.take k) i = at' l i := by
 unfold at'; rw [List.getD_eq_getElem?_getD, List.getD_eq_getElem?_getD, List.getElem?_take_of_lt h]
theorem at_take_past (l : List UInt8) {k i : Nat} (h : k <= i) : at' (l.take k) i = 0 := by
 apply at_zero; rw [List.length_take]; omega
theorem sgn_take (l : List UInt8) {k i : Nat} (h : i < k) : sgn (l.take k) i = sgn l i := by
 unfold sgn; rw [at_take l h]
theorem dig_past {l : List UInt8} {a : Nat} (h : l.length <= a) : dig l a = a := dig_no l a (by rw [at_zero (by omega)]; exact isD_zero)
theorem dig_take (l : List UInt8) (k : Nat) : ∀ n a, n = k - a -> a <= k -> dig (l.take k) a = min (dig l a) k := by
 intro n
 induction n with
 | zero =>
   intro a hn ha
   have h0 : a = k := by omega
   subst h0
   rw [dig_past (by rw [List.length_take]; omega)]
   have := dig_lo l a; omega
 | succ n ih =>
   intro a hn ha
   have hlt : a < k := by omega
   cases hd : isD (at' l a)
   ·rw [dig_no (l.take k) a (by rw [at_take l hlt]; exact hd), dig_no l a hd]; omega
   ·rw [dig_yes (l.take k) a (by rw [at_take l hlt]; exact hd), dig_yes l a hd]
    exact ih (a + 1) (by omega) (by omega)
theorem dig_take' (l : List UInt8) {k a : Nat} (h : a <= k) : dig (l.take k) a = min (dig l a) k := dig_take l k _ a rfl h
theorem len_take {l : List UInt8} {k : Nat} (h : k <= l.length) : (l.take k).length = k := by rw [List.length_take]; omega
theorem spS_take (l : List UInt8) {k : Nat} (h : 0 < k) : spS (l.take k) = spS l := sgn_take l h
theorem spW_take (l : List UInt8) {k : Nat} (h : 0 < k) : spW (l.take k) = min (spW l) k := by
 have h1 := spS_one l
 have e : spW (l.take k) = dig (l.take k) (spS (l.take k)) := rfl
 rw [e, spS_take l h, dig_take' l (by omega)]; rfl
theorem len_pos {l : List UInt8} (h : spD l ≠ spS l) : len l = spE l := by unfold len; rw [if_neg h]
theorem spDof_is (l : List UInt8) (w : Nat) : (at' l w = 46 /\ w + 1 < dig l (w + 1) /\ spDof l w = dig l (w + 1)) ∨ (¬ (at' l w = 46 /\ w + 1 < dig l (w + 1)) /\ spDof l w = w) := by
 unfold spDof
 by_cases h : at' l w = 46 /\ w + 1 < dig l (w + 1)
 ·rw [if_pos h]; exact Or.inl ⟨h.1, h.2, rfl⟩
 ·rw [if_neg h]; exact Or.inr ⟨h, rfl⟩
theorem spEof_is (l : List UInt8) (d : Nat) : ((at' l d = 101 ∨ at' l d = 69) /\ sgn l (d + 1) < dig l (sgn l (d + 1)) /\ spEof l d = dig l (sgn l (d + 1))) ∨ (¬ ((at' l d = 101 ∨ at' l d = 69) /\ sgn l (d + 1) < dig l (sgn l (d + 1))) /\ spEof l d = d) := by
 unfold spEof
 by_cases h : (at' l d = 101 ∨ at' l d = 69) /\ sgn l (d + 1) < dig l (sgn l (d + 1))
 ·rw [if_pos h]; exact Or.inl ⟨h.1, h.2, rfl⟩
 ·rw [if_neg h]; exact Or.inr ⟨h, rfl⟩
theorem begins_yes {l : List UInt8} (h0 : 0 < len l) : isDec (l.take (len l)) = true := by
 have hn : spD l ≠ spS l := by
  intro h
  unfold len at h0; rw [if_pos h] at h0; omega
 rw [len_pos hn] at *
 have hk := spE_hi l
 have eS := spS_take l h0
 have eW := spW_take l h0
 have l1 := spW_lo l
 have l2 := spD_lo l
 have l3 := spE_lo l
 have s1 := spS_one l
 generalize hkk : spE l = k at *
 rw [show min (spW l) k = spW l by omega] at eW
 have dD : spD (l.take k) = spDof (l.take k) (spW (l.take k)) := rfl
 have dE : spE (l.take k) = spEof (l.take k) (spD (l.take k)) := rfl
 rw [eW] at dD
 have d0 : spD l = spDof l (spW l) := rfl
 have e0 : k = spEof l (spD l) := hkk.symm
 have eD : spD (l.take k) = spD l := by
  rcases spDof_is l (spW l) with ⟨b1, b2, b3⟩ | ⟨b1, b2⟩
  ·rcases spDof_is (l.take k) (spW l) with ⟨_, _, a3⟩ | ⟨a1, _⟩
   ·rw [dig_take' l (by omega)] at a3; omega
   ·exact absurd ⟨(at_take l (by omega)).trans b1, by rw [dig_take' l (by omega)]; omega⟩ a1
  ·rcases spDof_is (l.take k) (spW l) with ⟨a1, a2, _⟩ | ⟨_, a2⟩
   ·exfalso
    by_cases hw : spW l < k
    ·rw [at_take l hw] at a1
     rw [dig_take' l (by omega)] at a2
     exact b1 ⟨a1, by omega⟩
    ·rw [at_take_past l (by omega)] at a1
     exact absurd a1 (by decide)
   ·omega
 rw [eD] at dE
 have eE : spE (l.take k) = k := by
  rcases spEof_is l (spD l) with ⟨b1, b2, b3⟩ | ⟨_, b2⟩
  ·have g1 := sgn_lo l (spD l + 1)
   rcases spEof_is (l.take k) (spD l) with ⟨_, _, a3⟩ | ⟨a1, _⟩
   ·rw [sgn_take l (by omega), dig_take' l (by omega)] at a3; omega
   ·exact absurd ⟨by rw [at_take l (by omega)]; exact b1, by rw [sgn_take l (by omega), dig_take' l (by omega)]; omega⟩ a1
  ·rcases spEof_is (l.take k) (spD l) with ⟨a1, _⟩ | ⟨_, a2⟩
   ·rw [at_take_past l (by omega)] at a1
    exact absurd a1 (by decide)
   ·omega
 unfold isDec
 apply decide_eq_true
 unfold len
 rw [if_neg (by rw [eD, eS]; exact hn), eE, len_take hk]
 exact ⟨by omega, rfl⟩
end Fx
end Go.Proofs.YtllmjggejbdpcaaGreatDoor
namespace Go.Proofs.YtllmjggejbdpcaaGreatDoor
namespace Fx
def Ends (L : List UInt8) (m : Nat) : Prop := at' L m = 128 ∨ at' L m = 0
theorem ends_isD {L : List UInt8} {m : Nat} (h : Ends L m) : isD (at' L m) = false := by rcases h with h | h <;> rw [h] <;> decide
theorem ends_ne {L : List UInt8} {m : Nat} (h : Ends L m) {c : UInt8} (h1 : c ≠ 128) (h2 : c ≠ 0) : at' L m ≠ c := by
 rcases h with h | h <;> rw [h]
 ·exact fun e => h1 e.symm
 ·exact fun e => h2 e.symm
theorem dig_stop {L : List UInt8} {m : Nat} (h : Ends L m) : ∀ n a, n = m - a -> a <= m -> dig L a <= m
 | 0, a, hn, ha => by
   have : a = m := by omega
   subst this
   rw [dig_no L a (ends_isD h)]; exact Nat.le_refl _
 | n + 1, a, hn, ha => by
   cases hd : isD (at' L a)
   ·rw [dig_no L a hd]; exact ha
   ·have hne : a ≠ m := fun e => by rw [e, ends_isD h] at hd; cases hd
    rw [dig_yes L a hd]
    exact dig_stop h n (a + 1) (by omega) (by omega)
theorem dig_cut {L : List UInt8} {m a : Nat} (h : Ends L m) (ha : a <= m) : dig (L.take m) a = dig L a := by
 rw [dig_take' L ha]
 have := dig_stop h _ a rfl ha
 omega
theorem at_cut {L : List UInt8} {m a : Nat} (h : Ends L m) (ha : a <= m) {c : UInt8} (h1 : c ≠ 128) (h2 : c ≠ 0) : at' (L.take m) a = c ↔ at' L a = c := by
 by_cases hlt : a < m
 ·rw [at_take L hlt]
 ·have : a = m := by omega
  subst this
  rw [at_take_past L (Nat.le_refl _)]
  exact ⟨fun e => absurd e.symm h2, fun e => absurd e (ends_ne h h1 h2)⟩
theorem sgn_cut {L : List UInt8} {m a : Nat} (h : Ends L m) (ha : a <= m) : sgn (L.take m) a = sgn L a /\ sgn L a <= m := by
 unfold sgn
 have e1 := at_cut h ha (c := 43) (by decide) (by decide)
 have e2 := at_cut h ha (c := 45) (by decide) (by decide)
 by_cases c : at' L a = 43 ∨ at' L a = 45
 ·rw [if_pos c, if_pos (by rw [e1, e2]; exact c)]
  refine ⟨rfl, ?_⟩
  by_cases hlt : a < m
  ·omega
  ·have : a = m := by omega
   subst this
   rcases c with c | c
   ·exact absurd c (ends_ne h (by decide) (by decide))
   ·exact absurd c (ends_ne h (by decide) (by decide))
 ·rw [if_neg c, if_neg (by rw [e1, e2]; exact c)]
  exact ⟨rfl, ha⟩
theorem spDof_cut {L : List UInt8} {m w : Nat} (h : Ends L m) (hw : w <= m) : spDof (L.take m) w = spDof L w /\ spDof L w <= m := by
 have e1 := at_cut h hw (c := 46) (by decide) (by decide)
 by_cases c : at' L w = 46
 ·have hlt : w < m := by
   by_cases hlt : w < m
   ·exact hlt
   ·have : w = m := by omega
    subst this
    exact absurd c (ends_ne h (by decide) (by decide))
  have e2 := dig_cut h (show w + 1 <= m by omega)
  have e3 := dig_stop h _ (w + 1) rfl (by omega)
  unfold spDof
  by_cases c2 : w + 1 < dig L (w + 1)
  ·rw [if_pos ⟨e1.2 c, by rw [e2]; exact c2⟩, if_pos ⟨c, c2⟩, e2]; exact ⟨rfl, e3⟩
  ·rw [if_neg (fun hh => c2 (by rw [<- e2]; exact hh.2)), if_neg (fun hh => c2 hh.2)]; exact ⟨rfl, hw⟩
 ·unfold spDof
  rw [if_neg (fun hh => c (e1.1 hh.1)), if_neg (fun hh => c hh.1)]
  exact ⟨rfl, hw⟩
theorem spEof_cut {L : List UInt8} {m d : Nat} (h : Ends L m) (hd : d <= m) : spEof (L.take m) d = spEof L d /\ spEof L d <= m := by
 have e1 := at_cut h hd (c := 101) (by decide) (by decide)
 have e2 := at_cut h hd (c := 69) (by decide) (by decide)
 by_cases c : at' L d = 101 ∨ at' L d = 69
 ·have hlt : d < m := by
   by_cases hlt : d < m
   ·exact hlt
   ·have : d = m := by omega
    subst this
    rcases c with c | c
    ·exact absurd c (ends_ne h (by decide) (by decide))
    ·exact absurd c (ends_ne h (by decide) (by decide))
  have e3 := sgn_cut h (show d + 1 <= m by omega)
  have e4 := dig_cut h e3.2
  have e5 := dig_stop h _ (sgn L (d + 1)) rfl e3.2
  have c' : at' (L.take m) d = 101 ∨ at' (L.take m) d = 69 := by rw [e1, e2]; exact c
  unfold spEof
  rw [e3.1, e4]
  by_cases c2 : sgn L (d + 1) < dig L (sgn L (d + 1))
  ·rw [if_pos ⟨c', c2⟩, if_pos ⟨c, c2⟩]; exact ⟨rfl, e5⟩
  ·rw [if_neg (fun hh => c2 hh.2), if_neg (fun hh => c2 hh.2)]; exact ⟨rfl, hd⟩
 ·unfold spEof
  rw [if_neg (fun hh => c (by have := hh.1; rw [e1, e2] at this; exact this)), if_neg (fun hh => c hh.1)]
  exact ⟨rfl, hd⟩
theorem len_cut {L : List UInt8} {m : Nat} (h : Ends L m) : len (L.take m) = len L /\ len L <= m := by
 have s := sgn_cut h (Nat.zero_le m)
 have w := dig_cut h s.2
 have w2 := dig_stop h _ (sgn L 0) rfl s.2
 have d := spDof_cut h w2
 have e := spEof_cut h d.2
 have es : spS (L.take m) = spS L := s.1
 have ew : spW (L.take m) = spW L := by unfold spW; rw [es]; exact w
 have ed : spD (L.take m) = spD L := by unfold spD; rw [ew]; exact d.1
 have ee : spE (L.take m) = spE L := by unfold spE; rw [ed]; exact e.1
 unfold len
 rw [es, ed, ee]
 refine ⟨rfl, ?_⟩
 split
 ·omega
 ·exact e.2
end Fx
namespace Tk
open Ru
def p8 (c : Int) : UInt8 := UInt8.ofNat (min c 128).toNat
theorem p8_lt {c : Int} (h : c < 128) : p8 c = u8 c := by unfold p8 u8; rw [show min c 128 = c by omega]
theorem p8_ge {c : Int} (h : ¬ c < 128) : p8 c = 128 := by unfold p8; rw [show min c 128 = 128 by omega]; rfl
theorem numL_eq (l : List Int) (k : Nat) : numL l k = (ascL l k).map u8 := by
 unfold numL strOfNums; simp [u8]
theorem ascL_take (m : List Int) : (m.takeWhile fun c => decide (c < 128)).map u8 = (m.map p8).take (m.takeWhile fun c => decide (c < 128)).length /\ Fx.Ends (m.map p8) (m.takeWhile fun c => decide (c < 128)).length := by
 induction m with
 | nil => exact ⟨rfl, .inr rfl⟩
 | cons a t ih =>
   by_cases h : a < 128
   ·rw [List.takeWhile_cons, decide_eq_true h, if_pos rfl]
    refine ⟨?_, ?_⟩
    ·rw [List.map_cons, List.map_cons, List.length_cons, List.take_succ_cons, p8_lt h, <- ih.1]
    ·have := ih.2
     unfold Fx.Ends Fx.at' at *
     rw [List.map_cons, List.length_cons, List.getD_cons_succ]
     exact this
   ·rw [List.takeWhile_cons, decide_eq_false h]
    refine ⟨rfl, .inl ?_⟩
    unfold Fx.at'
    rw [List.map_cons, p8_ge h]; rfl
theorem plain_len (l : List Int) (k : Nat) : Fx.len ((l.map p8).drop k) = nlen l k := by
 have h := ascL_take (l.drop k)
 unfold nlen
 rw [numL_eq, <- List.map_drop]
 show _ = Fx.len (((l.drop k).takeWhile fun c => decide (c < 128)).map u8)
 rw [h.1]
 exact (Fx.len_cut h.2).1.symm
theorem plain_val (l : List Int) (k : Nat) : pv (((l.map p8).drop k).take (nlen l k)) = nval l k := by
 have h := ascL_take (l.drop k)
 have h2 := (Fx.len_cut h.2).2
 rw [List.map_drop, plain_len] at h2
 unfold nval
 rw [numL_eq]
 show _ = pv ((((l.drop k).takeWhile fun c => decide (c < 128)).map u8).take (nlen l k))
 rw [h.1, List.take_take, List.map_drop, Nat.min_eq_left h2]
theorem nlen_num {l : List Int} {k : Nat} (h : 0 < nlen l k) : k < l.length /\ numB (g l k) = true := by
 have hk : k < l.length := by
  have h1 := numL_len l k
  have h2 := Fx.len_hi (numL l k)
  unfold nlen at h
  omega
 refine ⟨hk, ?_⟩
 rw [<- plain_len] at h
 have e : Fx.at' ((l.map p8).drop k) 0 = p8 (g l k) := by
  unfold Fx.at'
  rw [<- List.map_drop, List.drop_eq_getElem_cons hk, List.map_cons, g_eq hk]; rfl
 generalize (l.map p8).drop k = L at *
 unfold numB
 apply decide_eq_true
 have hne : Fx.spD L ≠ Fx.spS L := fun hh => by unfold Fx.len at h; rw [if_pos hh] at h; omega
 have key : Fx.at' L 0 = 43 ∨ Fx.at' L 0 = 45 ∨ Fx.at' L 0 = 46 ∨ Fx.isD (Fx.at' L 0) = true := by
  by_cases h1 : Fx.at' L 0 = 43
  ·exact .inl h1
  by_cases h2 : Fx.at' L 0 = 45
  ·exact .inr (.inl h2)
  by_cases h3 : Fx.at' L 0 = 46
  ·exact .inr (.inr (.inl h3))
  cases hd : Fx.isD (Fx.at' L 0)
  ·exfalso
   apply hne
   have es : Fx.spS L = 0 := by unfold Fx.spS Fx.sgn; rw [if_neg (by rintro (e | e); exact h1 e; exact h2 e)]
   have ew : Fx.spW L = 0 := by unfold Fx.spW; rw [es, Fx.dig_no L 0 hd]
   unfold Fx.spD Fx.spDof
   rw [ew, es, if_neg (fun hh => h3 hh.1)]
  ·exact .inr (.inr (.inr rfl))
 rw [e] at key
 by_cases hc : g l k < 128
 ·rw [p8_lt hc] at key
  by_cases h0 : 0 <= g l k
  ·have ht : (u8 (g l k)).toNat = (g l k).toNat := by unfold u8; rw [UInt8.toNat_ofNat']; omega
   rcases key with h | h | h | h
   ·rw [h] at ht; have : (43 : UInt8).toNat = 43 := rfl; omega
   ·rw [h] at ht; have : (45 : UInt8).toNat = 45 := rfl; omega
   ·rw [h] at ht; have : (46 : UInt8).toNat = 46 := rfl; omega
   ·unfold Fx.isD at h; have := of_decide_eq_true h; omega
  ·have : u8 (g l k) = 0 := by unfold u8; rw [show (g l k).toNat = 0 by omega]; rfl
   rw [this] at key
   exfalso; revert key; decide
 ·rw [p8_ge hc] at key
  exfalso; revert key; decide
theorem at_lo {l : List Int} (h : ∀ c ∈ l, 0 <= c) (k : Nat) : -1 <= at' l k := by
 unfold at'
 split
 ·rename_i hk
  rw [g_eq hk]
  have := h _ (List.getElem_mem hk)
  omega
 ·omega
theorem at_neg {l : List Int} (h : ∀ c ∈ l, 0 <= c) {k : Nat} (hk : k < l.length) : 0 <= at' l k := by
 rw [at_in hk, g_eq hk]; exact h _ (List.getElem_mem hk)
theorem esc_code {l : List Int} (h : ∀ c ∈ l, 0 <= c) (k : Nat) : esc l k = (decide (at' l k = 92) && (decide (at' l (k + 1) ≠ 10) && decide (at' l (k + 1) ≠ -1))) := by
 have := at_lo h (k + 1)
 unfold esc
 rw [Bool.eq_iff_iff]
 simp only [Bool.and_eq_true, decide_eq_true_eq]
 omega
theorem begs_code (l : List Int) (k : Nat) : begs l k = if at' l k = 45 then (decide (at' l (k + 1) = 45) || may l (k + 1)) else may l k := by
 unfold begs
 by_cases h : at' l k = 45
 ·have hm : may l k = false := by
   unfold may esc
   rw [h]
   rfl
  rw [if_pos h, hm, decide_eq_true h, Bool.false_or, Bool.true_and, Bool.or_comm]
 ·rw [if_neg h, decide_eq_false h, Bool.false_and, Bool.or_false]
theorem qq_far (l : List Int) (e : Int) {k : Nat} (hk : l.length <= k) : qq l e k = (6, [], l.length) := by
 rw [qq_end (by omega), show min (k + 1) l.length = l.length by omega]
theorem qq_clamp {l : List Int} {e : Int} {k : Nat} : qq l e k = qq l e (min k l.length) := by
 by_cases h : k <= l.length
 ·rw [Nat.min_eq_left h]
 ·rw [qq_far l e (by omega), Nat.min_eq_right (by omega), qq_far l e (Nat.le_refl _)]
theorem sp_stop (l : List Int) : ∀ (m k : Nat) (b : Bool), l.length - k <= m -> k <= l.length -> whiB (at' l (sp l k b).1) = false /\ opn l (sp l k b).1 = false
 | m, k, b, hm, hk => by
   cases hw : whiB (at' l k)
   ·cases ho : opn l k
    ·rw [sp_no hw ho]; exact ⟨hw, ho⟩
    ·rw [sp_opn hw ho]
     have hc := cmt_le ho
     match m, hm with
     | 0, hm => omega
     | m + 1, hm => exact sp_stop l m _ b (by omega) hc.2
   ·rw [sp_white hw]
    have := whi_lt hw
    match m, hm with
    | 0, hm => omega
    | m + 1, hm => exact sp_stop l m _ true (by omega) (by omega)
theorem sp_gt {l : List Int} {k : Nat} {b : Bool} (h : whiB (at' l k) = true ∨ opn l k = true) : k < (sp l k b).1 := by
 cases hw : whiB (at' l k)
 ·rw [hw] at h
  have ho : opn l k = true := by
   rcases h with h | h
   ·cases h
   ·exact h
  rw [sp_opn hw ho]
  have hc := cmt_le ho
  have := sp_le l (cmt l k) b hc.2
  omega
 ·rw [sp_white hw]
  have hlt := whi_lt hw
  have := sp_le l (k + 1) true (by omega)
  omega
theorem sp_again {l : List Int} {k : Nat} (b c : Bool) (hk : k <= l.length) : sp l (sp l k b).1 c = ((sp l k b).1, c) := by
 have h := sp_stop l _ k b (Nat.le_refl _) hk
 exact sp_no h.1 h.2
theorem scan_gap {l : List Int} {k : Nat} (hk : k < l.length) : scan l k = spTok (sp l k false).2 ++ scan l (sp l k false).1 := by
 have h1 := sp_le l k false (by omega)
 have h2 := sp_again false false (show k <= l.length by omega)
 by_cases h : (sp l k false).1 < l.length
 ·rw [scan_on hk h, List.append_assoc]
  congr 1
  have h3 := scan_on h (by rw [h2]; exact h)
  rw [h3, h2]; rfl
 ·rw [scan_last hk h, scan_end h, List.append_nil]
theorem scan_tok {l : List Int} {k : Nat} (hk : k < l.length) (hw : whiB (at' l k) = false) (ho : opn l k = false) : scan l k = tokOf (nxt l k) :: scan l (nxt l k).2.2.2 := by
 have h := sp_no (b := false) hw ho
 have h2 := scan_on hk (by rw [h]; exact hk)
 rw [h2, h]; rfl
end Tk
end Go.Proofs.YtllmjggejbdpcaaGreatDoor
namespace Go.Proofs.YtllmjggejbdpcaaGreatDoor
open Go.RowKit
namespace Tk
open Ru
theorem pow16 {m : Nat} (h : m <= 5) : (16 : Int) ^ m <= 1048576 := by
 rcases (show m = 0 ∨ m = 1 ∨ m = 2 ∨ m = 3 ∨ m = 4 ∨ m = 5 by omega) with rfl | rfl | rfl | rfl | rfl | rfl <;> decide
theorem hexR_yes {f : Nat} {l : List Int} {j : Nat} {n : Int} (h : 0 <= hexV (at' l j)) : hexR (f + 1) l j n = hexR f l (j + 1) (n * 16 + hexV (at' l j)) := by
 conv => lhs; unfold hexR
 rw [if_pos h]
theorem hexR_no {f : Nat} {l : List Int} {j : Nat} {n : Int} (h : ¬ 0 <= hexV (at' l j)) : hexR f l j n = (n, j) := by
 cases f with
 | zero => rfl
 | succ f => conv => lhs; unfold hexR
             rw [if_neg h]
def meantN (n : Int) : Int := if n = 0 ∨ isB n = false then 65533 else n
def meantK (l : List Int) (j : Nat) : Nat := if whiB (at' l j) = true then j + 1 else j
theorem meant_none {l : List Int} {k : Nat} {n : Int} (h : hexR 6 l (k + 1) 0 = (n, k + 1)) : meant l k = (g l (k + 1), k + 2) := by
 unfold meant; rw [h]; simp
theorem meant_some {l : List Int} {k j : Nat} {n : Int} (h : hexR 6 l (k + 1) 0 = (n, j)) (hj : j ≠ k + 1) : meant l k = (meantN n, meantK l j) := by
 unfold meant meantN meantK; rw [h]; simp [hj]
end Tk
end Go.Proofs.YtllmjggejbdpcaaGreatDoor
namespace Go.Proofs.YtllmjggejbdpcaaGreatDoor
namespace Tk
open Ru
def Chr (l : List Int) : Prop := ∀ c ∈ l, 0 <= c /\ c <= 1114111
theorem Chr.pos {l : List Int} (h : Chr l) : ∀ c ∈ l, 0 <= c := fun c hc => (h c hc).1
theorem Chr.g {l : List Int} (h : Chr l) {k : Nat} (hk : k < l.length) : 0 <= g l k /\ g l k <= 1114111 := by
 rw [g_eq hk]; exact h _ (List.getElem_mem hk)
theorem Chr.at_ {l : List Int} (h : Chr l) (k : Nat) : -1 <= at' l k /\ at' l k <= 1114111 := by
 by_cases hk : k < l.length
 ·rw [at_in hk]; have := h.g hk; omega
 ·rw [at_out hk]; omega
theorem isB_le {c : Int} (h : isB c = true) : 0 <= c /\ c <= 1114111 := by
 unfold isB at h
 have := of_decide_eq_true h
 omega
theorem Chr.meant_ {l : List Int} (h : Chr l) {k : Nat} (he : esc l k = true) : 0 <= (meant l k).1 /\ (meant l k).1 <= 1114111 := by
 have hk := (esc_lt he).1
 unfold meant
 split
 ·exact h.g hk
 ·simp only
  split
  ·omega
  ·rename_i h2
   have hb : isB (hexR 6 l (k + 1) 0).1 = true := by
    cases hb : isB (hexR 6 l (k + 1) 0).1
    ·exact absurd (.inr hb) h2
    ·rfl
   exact isB_le hb
end Tk
def posOf (w : World) (b : Nat) : Nat := match w.cell? ⟨b, 1, none⟩ with
 | some (.int _ n) => n.toNat
 | _ => 0
end Go.Proofs.YtllmjggejbdpcaaGreatDoor
namespace Go.Proofs.YtllmjggejbdpcaaGreatDoor
namespace Ru
theorem wr_asc : ∀ (a : List Int), (∀ c ∈ a, 0 <= c /\ c <= 127) -> wr a = a
 | [], _ => rfl
 | c :: a, h => by
   have e : wr (c :: a) = Lib.encodeRuneZ c ++ wr a := rfl
   rw [e, wr_asc a (fun d hd => h d (by simp [hd])), Lib.encodeRuneZ_one (h c (by simp)).1 (h c (by simp)).2]; rfl
end Ru
namespace Tk
open Ru
theorem at_app (pre : List Int) (c : Int) (post : List Int) : at' (pre ++ c :: post) pre.length = c := by
 rw [at_in (by simp)]
 unfold g
 rw [List.getD_eq_getElem?_getD, List.getElem?_append_right (Nat.le_refl _)]
 simp
end Tk
end Go.Proofs.YtllmjggejbdpcaaGreatDoor
namespace Go.Proofs.YtllmjggejbdpcaaGreatDoor
namespace Tk
open Ru
def hx (d : Int) : Int := if d < 10 then 48 + d else 87 + d
end Tk
end Go.Proofs.YtllmjggejbdpcaaGreatDoor
namespace Go.Proofs.YtllmjggejbdpcaaGreatDoor
open Go.RowKit
namespace Fx
def stop (n : Int) : Int := max (-1099511627776) (min n 1099511627776)
end Fx
namespace Fx
def frac (r : Nat) : List UInt8 := Lib.trimRightB ((Lib.decDigits (1000 + r)).drop 1) 48
end Fx
end Go.Proofs.YtllmjggejbdpcaaGreatDoor
namespace Go.Proofs.YtllmjggejbdpcaaGreatDoor
namespace Pr
open Ru Tk
def hexF : Nat -> Int -> List Int
 | 0, _ => []
 | f + 1, c => if c < 16 then [hx c] else hexF f (c / 16) ++ [hx (c % 16)]
def hexC (c : Int) : List Int := hexF 6 c
def escC (c : Int) : List Int := 92 :: (hexC c ++ [32])
theorem Is_isB {c : Int} (h : Is c) : isB c = true := isB_iff.2 h
theorem Is_lt {c : Int} (h : Is c) : 0 <= c /\ c <= 1114111 := by unfold Is at h; omega
def must (dim : Bool) (l : List Int) (i : Nat) : Bool :=
 !witB (g l i) || ((decide (48 <= g l i /\ g l i <= 57) && (decide (i = 0) || (decide (i = 1) && decide (g l 0 = 45)))) || (decide (l = [45]) || (dim && (decide (i = 0) && decide (g l i = 101 ∨ g l i = 69)))))
def piece (dim : Bool) (l : List Int) (i : Nat) : List Int := if must dim l i = true then escC (g l i) else [g l i]
def nmT (dim : Bool) (l : List Int) (k : Nat) : List Int := (List.range k).flatMap (piece dim l)
def nm (dim : Bool) (l : List Int) : List Int := nmT dim l l.length
def Ok (l : List Int) : Prop := ∀ c ∈ l, Is c /\ c ≠ 0
theorem Ok.at_ {l : List Int} (h : Ok l) {i : Nat} (hi : i < l.length) : Is (g l i) /\ g l i ≠ 0 := by rw [g_eq hi]; exact h _ (List.getElem_mem hi)
def spec (c : Int) : Prop := c = 34 ∨ c = 92 ∨ c = 10 ∨ c = 12 ∨ c = 13
instance (c : Int) : Decidable (spec c) := by unfold spec; exact inferInstance
end Pr
end Go.Proofs.YtllmjggejbdpcaaGreatDoor
namespace Go.Proofs.YtllmjggejbdpcaaGreatDoor
open Go.RowKit
namespace Ru
def bs (s : ByteArray) : List Int := s.data.toList.map fun b => (b.toNat : Int)
theorem bs_len (s : ByteArray) : (bs s).length = s.size := by unfold bs; rw [List.length_map, <- Lib.size_eq]
theorem bs_by (s : ByteArray) : By (bs s) := fun c hc => by
 unfold bs at hc
 obtain ⟨x, _, rfl⟩ := List.mem_map.1 hc
 have := x.toNat_lt
 omega
theorem bs_get (s : ByteArray) (k : Nat) (h : k < s.size) : g (bs s) k = (s[k].toNat : Int) := by
 rw [g_eq (by rw [bs_len]; exact h)]
 unfold bs
 rw [List.getElem_map]
 rfl
theorem bs_str {l : List Int} (h : By l) : bs (strOfNums l) = l := by
 unfold bs
 rw [strOfNums_data, List.map_map]
 apply List.ext_getElem
 ·simp
 ·intro i h1 h2
  simp only [List.getElem_map, Function.comp]
  have := h l[i] (List.getElem_mem h2)
  rw [UInt8.toNat_ofNat']
  omega
end Ru
theorem bytes_of (s : ByteArray) (w : World) : ∃ (C : Nat) (w0 : World), (convert 9 22 (.string s)).run Tryz.prog w = .ok (.slice (some ⟨w.heap.size, 0, none⟩) s.size C) w0 /\
 (∀ j, j < s.size -> w0.cell? ⟨w.heap.size, j, none⟩ = some (.int .u8 (Ru.g (Ru.bs s) j))) /\ (∀ j, j < s.size -> w0.frozen? ⟨w.heap.size, j, none⟩ = false) /\ Below w.heap.size w w0 /\ s.size <= C := by
 refine ⟨_, _, run_bytes_of_string w _ _ 5 s Tryz.underlying9 Tryz.underlying22 Tryz.underlying5, fun j hj => ?_, fun j hj => ?_, (Below.refl _ w).drew.alloc (Nat.le_refl _) _, grownCap_ge _ _ _ _⟩
 ·have h := World.cell?_alloc_mark w.drew (bytesRow s (grownCap w s.size 0 5)) 5 ((bytesRow s (grownCap w s.size 0 5)).size, (bytesRow s (grownCap w s.size 0 5)).size + 1) j
  refine h.trans ?_
  rw [Ru.bs_get s j hj]
  unfold bytesRow
  rw [Array.getElem?_append_left (by simpa using hj)]
  simp only [Array.getElem?_map]
  rw [Array.getElem?_eq_getElem hj]
  rfl
 ·have h := World.frozen?_alloc_mark w.drew (bytesRow s (grownCap w s.size 0 5)) 5 ((bytesRow s (grownCap w s.size 0 5)).size) ((bytesRow s (grownCap w s.size 0 5)).size + 1) j
  refine h.trans ?_
  have : j < (bytesRow s (grownCap w s.size 0 5)).size := by
   unfold bytesRow
   rw [Array.size_append, Array.size_map]
   have : s.data.size = s.size := rfl
   omega
  simp; omega
end Go.Proofs.YtllmjggejbdpcaaGreatDoor
