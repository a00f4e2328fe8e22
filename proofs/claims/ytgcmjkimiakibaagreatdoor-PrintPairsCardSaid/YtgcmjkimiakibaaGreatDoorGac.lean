/-
  Plain words of tokens: white space and comments, texts in quotes. No run of the program in this text.
-/
import Derived.Test.YtgcmjkimiakibaaGreatDoorGab
import Derived.Below
import Derived.Laws.OwnMore
import Derived.Deep.AppendLies
import Derived.Deep.Draws
import Derived.Deep.QuietTactic
import Derived.BigQuiet
import Derived.LoopTactic
import Derived.OwnWalk
import Derived.Lib.RuneBytes
import Derived.Laws.BytesArg
import Derived.Laws.IdiomStrings
import Derived.WalkSpells
import Derived.WalkLawsBesides
import Derived.Lib.Hide
namespace Go.Proofs.YtgcmjkimiakibaaGreatDoor
namespace Tk
open Ru

/-! ### white space and comments -/
def cmtF : Nat → List Int → Nat → Nat
  | 0, _, j => j
  | f + 1, l, j => if j < l.length ∧ ¬ (g l j = 42 ∧ at' l (j + 1) = 47) then cmtF f l (j + 1) else j
/-- where a comment's end stands, from j on, or the end of all -/
def cmtE (l : List Int) (j : Nat) : Nat := cmtF l.length l j
/-- where the comment ends that begins at k -/
def cmt (l : List Int) (k : Nat) : Nat := min (cmtE l (k + 2) + 2) l.length
def opn (l : List Int) (k : Nat) : Bool := decide (at' l k = 47 ∧ at' l (k + 1) = 42)
def spF : Nat → List Int → Nat → Bool → Nat × Bool
  | 0, _, k, b => (k, b)
  | f + 1, l, k, b => if whiB (at' l k) = true then spF f l (k + 1) true else if opn l k = true then spF f l (cmt l k) b else (k, b)
/-- where white characters and comments end, and whether one is white (or one was) -/
def sp (l : List Int) (k : Nat) (b : Bool) : Nat × Bool := spF l.length l k b

theorem whiB_out : whiB (-1) = false := by decide
theorem whi_lt {l : List Int} {k : Nat} (h : whiB (at' l k) = true) : k < l.length := at_lt (fun e => by rw [e, whiB_out] at h; cases h)
theorem opn_lt {l : List Int} {k : Nat} (h : opn l k = true) : k + 1 < l.length := by
  unfold opn at h
  have := of_decide_eq_true h
  exact at_lt (fun e => by omega)
theorem cmtF_le : ∀ (f : Nat) (l : List Int) (j : Nat), j ≤ cmtF f l j ∧ (j ≤ l.length → cmtF f l j ≤ l.length)
  | 0, _, _ => by unfold cmtF; simp
  | f + 1, l, j => by
    unfold cmtF
    split
    · have := cmtF_le f l (j + 1); omega
    · simp
theorem cmtF_more : ∀ (f : Nat) (l : List Int) (j : Nat), l.length - j ≤ f → cmtF f l j = cmtF (l.length - j) l j
  | 0, l, k, h => by rw [show l.length - k = 0 by omega]
  | f + 1, l, k, h => by
    by_cases hi : k < l.length ∧ ¬ (g l k = 42 ∧ at' l (k + 1) = 47)
    · obtain ⟨m, hm⟩ : ∃ m, l.length - k = m + 1 := ⟨l.length - k - 1, by omega⟩
      rw [hm]
      unfold cmtF
      rw [if_pos hi, if_pos hi, cmtF_more f _ _ (by omega), cmtF_more m _ _ (by omega)]
    · obtain ⟨m, hm⟩ : ∃ m, l.length - k = m := ⟨_, rfl⟩
      rw [hm]
      cases m with
      | zero => unfold cmtF; rw [if_neg hi]
      | succ m => unfold cmtF; rw [if_neg hi, if_neg hi]
termination_by f => f
theorem cmtE_yes {l : List Int} {j : Nat} (h : j < l.length ∧ ¬ (g l j = 42 ∧ at' l (j + 1) = 47)) : cmtE l j = cmtE l (j + 1) := by
  obtain ⟨m, hm⟩ : ∃ m, l.length = m + 1 := ⟨l.length - 1, by omega⟩
  unfold cmtE
  rw [cmtF_more l.length l (j + 1) (by omega), ← cmtF_more m l (j + 1) (by omega), hm]
  conv => lhs; unfold cmtF
  rw [if_pos h]
theorem cmtE_no {l : List Int} {j : Nat} (h : ¬ (j < l.length ∧ ¬ (g l j = 42 ∧ at' l (j + 1) = 47))) : cmtE l j = j := by
  unfold cmtE
  cases hl : l.length with
  | zero => rfl
  | succ m => conv => lhs; unfold cmtF
              rw [if_neg h]
theorem cmt_le {l : List Int} {k : Nat} (h : opn l k = true) : k + 2 ≤ cmt l k ∧ cmt l k ≤ l.length := by
  have h1 := opn_lt h
  have h2 := cmtF_le l.length l (k + 2)
  unfold cmt cmtE
  omega
theorem spF_more : ∀ (f : Nat) (l : List Int) (k : Nat) (b : Bool), l.length - k ≤ f → spF f l k b = spF (l.length - k) l k b
  | 0, l, k, b, h => by rw [show l.length - k = 0 by omega]
  | f + 1, l, k, b, h => by
    obtain ⟨m, hm⟩ : ∃ m, l.length - k = m := ⟨_, rfl⟩
    rw [hm]
    by_cases hw : whiB (at' l k) = true
    · have hk := whi_lt hw
      cases m with
      | zero => omega
      | succ m =>
        unfold spF
        rw [if_pos hw, if_pos hw, spF_more f _ _ _ (by omega), spF_more m _ _ _ (by omega)]
    · by_cases ho : opn l k = true
      · have hk := opn_lt ho
        have hc := cmt_le ho
        cases m with
        | zero => omega
        | succ m =>
          unfold spF
          rw [if_neg hw, if_pos ho, if_neg hw, if_pos ho, spF_more f _ _ _ (by omega), spF_more m _ _ _ (by omega)]
      · cases m with
        | zero => unfold spF; rw [if_neg hw, if_neg ho]
        | succ m => unfold spF; rw [if_neg hw, if_neg ho, if_neg hw, if_neg ho]
termination_by f => f
theorem sp_white {l : List Int} {k : Nat} {b : Bool} (h : whiB (at' l k) = true) : sp l k b = sp l (k + 1) true := by
  have hk := whi_lt h
  obtain ⟨m, hm⟩ : ∃ m, l.length = m + 1 := ⟨l.length - 1, by omega⟩
  unfold sp
  rw [spF_more l.length l (k + 1) true (by omega), ← spF_more m l (k + 1) true (by omega), hm]
  conv => lhs; unfold spF
  rw [if_pos h]
theorem sp_opn {l : List Int} {k : Nat} {b : Bool} (h : whiB (at' l k) = false) (ho : opn l k = true) : sp l k b = sp l (cmt l k) b := by
  have hk := opn_lt ho
  have hc := cmt_le ho
  obtain ⟨m, hm⟩ : ∃ m, l.length = m + 1 := ⟨l.length - 1, by omega⟩
  unfold sp
  rw [spF_more l.length l (cmt l k) b (by omega), ← spF_more m l (cmt l k) b (by omega), hm]
  conv => lhs; unfold spF
  rw [if_neg (by rw [h]; decide), if_pos ho]
theorem sp_no {l : List Int} {k : Nat} {b : Bool} (h : whiB (at' l k) = false) (ho : opn l k = false) : sp l k b = (k, b) := by
  unfold sp
  cases hl : l.length with
  | zero => rfl
  | succ m => conv => lhs; unfold spF
              rw [if_neg (by rw [h]; decide), if_neg (by rw [ho]; decide)]
theorem spF_le : ∀ (f : Nat) (l : List Int) (k : Nat) (b : Bool), k ≤ (spF f l k b).1 ∧ (k ≤ l.length → (spF f l k b).1 ≤ l.length)
  | 0, _, _, _ => by unfold spF; simp
  | f + 1, l, k, b => by
    unfold spF
    split
    · rename_i hw
      have := whi_lt hw
      have := spF_le f l (k + 1) true
      omega
    · split
      · rename_i ho
        have := cmt_le ho
        have := spF_le f l (cmt l k) b
        omega
      · simp
theorem sp_le (l : List Int) (k : Nat) (b : Bool) (h : k ≤ l.length) : k ≤ (sp l k b).1 ∧ (sp l k b).1 ≤ l.length := by
  have := spF_le l.length l k b
  unfold sp
  exact ⟨this.1, this.2 h⟩

/-! ### texts in quotes -/
def push (c : Int) (r : Int × List Int × Nat) : Int × List Int × Nat := (r.1, c :: r.2.1, r.2.2)
def qF : Nat → List Int → Int → Nat → Int × List Int × Nat
  | 0, l, _, k => (6, [], min (k + 1) l.length)
  | f + 1, l, e, k =>
    if ¬ (k < l.length ∧ g l k ≠ e) then (6, [], min (k + 1) l.length)
    else if g l k = 10 then (7, [], k)
    else if esc l k = true then push (meant l k).1 (qF f l e (meant l k).2)
    else if g l k = 92 then qF f l e (k + 2)
    else push (g l k) (qF f l e (k + 1))
/-- the text up to e, from k on: its kind, its characters, and where it ends -/
def qq (l : List Int) (e : Int) (k : Nat) : Int × List Int × Nat := qF l.length l e k
theorem qF_more : ∀ (f : Nat) (l : List Int) (e : Int) (k : Nat), l.length - k ≤ f → qF f l e k = qF (l.length - k) l e k
  | 0, l, e, k, h => by rw [show l.length - k = 0 by omega]
  | f + 1, l, e, k, h => by
    obtain ⟨m, hm⟩ : ∃ m, l.length - k = m := ⟨_, rfl⟩
    rw [hm]
    by_cases h0 : ¬ (k < l.length ∧ g l k ≠ e)
    · cases m with
      | zero => unfold qF; rw [if_pos h0]
      | succ m => unfold qF; rw [if_pos h0, if_pos h0]
    · cases m with
      | zero => omega
      | succ m =>
        unfold qF
        rw [if_neg h0, if_neg h0]
        by_cases h1 : g l k = 10
        · rw [if_pos h1, if_pos h1]
        · rw [if_neg h1, if_neg h1]
          by_cases h2 : esc l k = true
          · have hl := meant_le (esc_lt h2).1
            rw [if_pos h2, if_pos h2, qF_more f _ _ _ (by omega), qF_more m _ _ _ (by omega)]
          · rw [if_neg h2, if_neg h2]
            by_cases h3 : g l k = 92
            · rw [if_pos h3, if_pos h3, qF_more f _ _ _ (by omega), qF_more m _ _ _ (by omega)]
            · rw [if_neg h3, if_neg h3, qF_more f _ _ _ (by omega), qF_more m _ _ _ (by omega)]
termination_by f => f
theorem qq_end {l : List Int} {e : Int} {k : Nat} (h : ¬ (k < l.length ∧ g l k ≠ e)) : qq l e k = (6, [], min (k + 1) l.length) := by
  unfold qq
  cases hl : l.length with
  | zero => conv => lhs; unfold qF
            rw [hl]
  | succ m => conv => lhs; unfold qF
              rw [if_pos h, hl]
theorem qq_step {l : List Int} {e : Int} {k : Nat} (h : k < l.length ∧ g l k ≠ e) : qq l e k =
    if g l k = 10 then (7, [], k)
    else if esc l k = true then push (meant l k).1 (qq l e (meant l k).2)
    else if g l k = 92 then qq l e (k + 2)
    else push (g l k) (qq l e (k + 1)) := by
  obtain ⟨m, hm⟩ : ∃ m, l.length = m + 1 := ⟨l.length - 1, by omega⟩
  have mo : ∀ j, k < j → qF l.length l e j = qF m l e j := fun j hj => by rw [qF_more l.length l e j (by omega), qF_more m l e j (by omega)]
  unfold qq
  by_cases h1 : g l k = 10
  · rw [if_pos h1, hm]; conv => lhs; unfold qF
    rw [if_neg (fun hh => hh h), if_pos h1]
  · rw [if_neg h1]
    by_cases h2 : esc l k = true
    · have hl := meant_le (esc_lt h2).1
      rw [if_pos h2, mo (meant l k).2 (by omega), hm]; conv => lhs; unfold qF
      rw [if_neg (fun hh => hh h), if_neg h1, if_pos h2]
    · rw [if_neg h2]
      by_cases h3 : g l k = 92
      · rw [if_pos h3, mo (k + 2) (by omega), hm]; conv => lhs; unfold qF
        rw [if_neg (fun hh => hh h), if_neg h1, if_neg h2, if_pos h3]
      · rw [if_neg h3, mo (k + 1) (by omega), hm]; conv => lhs; unfold qF
        rw [if_neg (fun hh => hh h), if_neg h1, if_neg h2, if_neg h3]
theorem qF_le : ∀ (f : Nat) (l : List Int) (e : Int) (k : Nat), k ≤ l.length → k ≤ (qF f l e k).2.2 ∧ (qF f l e k).2.2 ≤ l.length
  | 0, l, e, k, h => by unfold qF; simp only; omega
  | f + 1, l, e, k, h => by
    unfold qF
    split
    · simp only; omega
    · rename_i h0
      have hk : k < l.length := by
        by_cases c : k < l.length
        · exact c
        · exact absurd (fun hh => c hh.1) h0
      split
      · simp only; omega
      · split
        · rename_i h2
          have hl := meant_le (esc_lt h2).1
          have := qF_le f l e (meant l k).2 hl.2
          unfold push; simp only; omega
        · split
          · by_cases c : k + 2 ≤ l.length
            · have := qF_le f l e (k + 2) c; omega
            · have h3 : k + 1 = l.length := by omega
              cases f with
              | zero => unfold qF; simp only; omega
              | succ f => unfold qF; rw [if_pos (by omega)]; simp only; omega
          · have := qF_le f l e (k + 1) (by omega)
            unfold push; simp only; omega
end Tk
end Go.Proofs.YtgcmjkimiakibaaGreatDoor

/-
  Words for memory: a slice that reads as a list of numbers, nil included.
-/
namespace Go.Proofs.YtgcmjkimiakibaaGreatDoor
open Go.RowKit

/-- numbers of one kind, as cells -/
def nums (k : IntKind) (l : List Int) : List Value := l.map (Value.int k)
theorem nums_len (k : IntKind) (l : List Int) : (nums k l).length = l.length := by unfold nums; simp
theorem nums_one (k : IntKind) (l : List Int) : ∀ u ∈ nums k l, u.oneCell' = true := by
  intro u hu
  unfold nums at hu
  obtain ⟨x, _, rfl⟩ := List.mem_map.1 hu
  rfl
theorem nums_app (k : IntKind) (a b : List Int) : nums k (a ++ b) = nums k a ++ nums k b := by unfold nums; simp
theorem nums_at {k : IntKind} {l : List Int} {j : Nat} {u : Value} (h : (nums k l)[j]? = some u) : j < l.length ∧ u = .int k (Ru.g l j) := by
  unfold nums at h
  rw [List.getElem?_map] at h
  cases hj : l[j]? with
  | none => rw [hj] at h; cases h
  | some x =>
    rw [hj] at h
    have hlt := (List.getElem?_eq_some_iff.1 hj).1
    refine ⟨hlt, ?_⟩
    have : u = .int k x := by simpa using h.symm
    rw [this]
    unfold Ru.g
    rw [List.getD_eq_getElem?_getD, hj]; rfl
theorem nums_get {k : IntKind} {l : List Int} {j : Nat} (h : j < l.length) : (nums k l)[j]? = some (.int k (Ru.g l j)) := by
  unfold nums Ru.g
  rw [List.getElem?_map, List.getElem?_eq_getElem h, List.getD_eq_getElem?_getD, List.getElem?_eq_getElem h]; rfl

/-- the slice at A of l's length reads as l, below block B -/
def Bs (w : World) (B : Nat) (k : IntKind) (A : Option Addr) (l : List Int) : Prop :=
  0 < l.length → ∃ b off, A = some ⟨b, off, none⟩ ∧ b < B ∧ ∀ j, j < l.length → w.cell? ⟨b, off + j, none⟩ = some (.int k (Ru.g l j))

section
variable {w w' : World} {B B' : Nat} {k : IntKind} {A : Option Addr} {l : List Int}
theorem Bs.nil : Bs w B k A [] := fun h => absurd h (by simp)
theorem Bs.keep (h : Bs w B k A l) (hk : ∀ p : Addr, p.block < B → w'.cell? p = w.cell? p) : Bs w' B k A l := fun hl => by
  obtain ⟨b, off, e, hb, hc⟩ := h hl
  exact ⟨b, off, e, hb, fun j hj => (hk ⟨b, off + j, none⟩ hb).trans (hc j hj)⟩
theorem Bs.more (h : Bs w B k A l) (hB : B ≤ B') : Bs w B' k A l := fun hl => by
  obtain ⟨b, off, e, hb, hc⟩ := h hl
  exact ⟨b, off, e, by omega, hc⟩
theorem Bs.below (h : Bs w B k A l) (hb : Below B w w') : Bs w' B k A l := h.keep fun _ hp => hb.cell hp
theorem Bs.grown (h : Bs w B k A l) {row : Option Nat} (hg : w.grownBy w' row) (hB : B ≤ w.heap.size) (hr : ∀ x, row = some x → B ≤ x) : Bs w' B k A l :=
  h.keep fun p hp => World.cell?_of_block (hg.block p.block (by omega) (fun e => by have := hr _ e.symm; omega))
theorem Bs.of_own {base : Nat} {e : TypeId} {c : Nat} (h : w.ownsRow base e 1 (.slice A l.length c) l.length (nums k l)) : Bs w w.heap.size k A l := fun hl => by
  obtain ⟨x, cap, hv, _, hlt⟩ := h.form hl
  have hA : A = some ⟨x, 0, none⟩ := by injection hv
  subst hA
  refine ⟨x, 0, rfl, hlt, fun j hj => ?_⟩
  have := h.cells (g := x) rfl j _ (nums_get (k := k) hj)
  rwa [Addr.add_lit] at this
/-- from a place on -/
theorem Bs.from_ (h : Bs w B k A l) {i : Nat} (hi : i ≤ l.length) (cap : Nat) (hc : l.length ≤ cap) :
    Bs w B k (if cap = i then A else A.map (·.add i)) (l.drop i) := fun hl => by
  rw [List.length_drop] at hl
  obtain ⟨b, off, rfl, hb, hcell⟩ := h (by omega)
  rw [if_neg (by omega)]
  refine ⟨b, off + i, ?_, hb, fun j hj => ?_⟩
  · rw [Option.map_some, Addr.add_lit]
  · rw [List.length_drop] at hj
    rw [Nat.add_assoc, hcell (i + j) (by omega)]
    unfold Ru.g
    rw [List.getD_eq_getElem?_getD, List.getD_eq_getElem?_getD, List.getElem?_drop]
/-- up to a place -/
theorem Bs.upto (h : Bs w B k A l) (i : Nat) (hi : i ≤ l.length) : Bs w B k A (l.take i) := fun hl => by
  rw [List.length_take] at hl
  obtain ⟨b, off, e, hb, hcell⟩ := h (by omega)
  refine ⟨b, off, e, hb, fun j hj => ?_⟩
  rw [List.length_take] at hj
  rw [hcell j (by omega)]
  unfold Ru.g
  rw [List.getD_eq_getElem?_getD, List.getD_eq_getElem?_getD, List.getElem?_take, if_pos (by omega)]
end

theorem below_drewN {B : Nat} {a w : World} (h : Below B a w) (n : Nat) : Below B a (w.drewN n) := ⟨h.os, h.tape, h.output, h.size, h.block⟩
end Go.Proofs.YtgcmjkimiakibaaGreatDoor

/-
  Words for memory: a new row of numbers, and how it grows.
-/
namespace Go.Proofs.YtgcmjkimiakibaaGreatDoor
open Go.RowKit

namespace Ru
theorem g_drop (l : List Int) (k j : Nat) : g (l.drop k) j = g l (k + j) := by
  unfold g; rw [List.getD_eq_getElem?_getD, List.getD_eq_getElem?_getD, List.getElem?_drop]
theorem g_eq {l : List Int} {k : Nat} (h : k < l.length) : g l k = l[k] := by
  unfold g; rw [List.getD_eq_getElem?_getD, List.getElem?_eq_getElem h]; rfl
theorem take_g {l : List Int} {k : Nat} (h : k < l.length) : l.take (k + 1) = l.take k ++ [g l k] := by
  rw [List.take_succ_eq_append_getElem h, g_eq h]
theorem eq_of_g {a b : List Int} (h : a.length = b.length) (hg : ∀ j, j < a.length → g a j = g b j) : a = b := by
  apply List.ext_getElem h
  intro i h1 h2
  rw [← g_eq h1, ← g_eq h2]
  exact hg i h1
theorem ne_f {a b : Int} (h : a = b) : (a != b) = false := by simp [h]
theorem ne_t {a b : Int} (h : ¬ a = b) : (a != b) = true := by simp [h]
end Ru

/-- a new row of numbers -/
def Made (k : IntKind) (E : TypeId) (l : List Int) (w : World) (e : Ending) (w' : World) : Prop :=
  ∃ v, e = .returned v ∧ w'.ownsRow w.heap.size E 1 v l.length (nums k l) ∧ Below w.heap.size w w'

theorem one_cell (w : World) (u : Value) {E : TypeId} : ∀ (j : Nat) (x : Value), [u][j]? = some x → (w.alloc (.cells #[u] E)).cell? ((⟨w.heap.size, 0, none⟩ : Addr).add j) = some x := by
  intro j x hj
  match j, hj with
  | 0, hj => simp only [List.getElem?_cons_zero, Option.some.injEq] at hj; subst hj; simp [Addr.add, go_sem]
theorem made_next {w wr w1 w3 : World} {o : Obj} {k : IntKind} {E : TypeId} {v v' : Value} {ds : List Int} {x : Int} (hown : wr.ownsRow w.heap.size E 1 v ds.length (nums k ds)) (hbel : Below w.heap.size w wr) (hb1 : Below wr.heap.size wr w1)
    (hown3 : w3.ownsRow w.heap.size E 1 v' (ds.length + 1) (nums k ds ++ [.int k x])) (hgrow : (w1.alloc o).grownBy w3 v.ownBlock) :
    w3.ownsRow w.heap.size E 1 v' (ds ++ [x]).length (nums k (ds ++ [x])) ∧ Below w.heap.size w w3 := by
  refine ⟨?_, ?_⟩
  · rw [nums_app, List.length_append]; exact hown3
  · have hs := hbel.size
    have hs1 := hb1.size
    exact ((hbel.trans (hb1.mono hs)).alloc (by omega) o).grown hgrow (by simp; omega) (fun j hj => (hown.lt j hj).1)
theorem drop_ne {l : List Int} {k : Nat} (h : k < l.length) : l.drop k ≠ [] := fun e => by
  have h2 : (l.drop k).length = 0 := by rw [e]; rfl
  rw [List.length_drop] at h2
  omega
theorem kept_below {w w1 : World} {base B : Nat} {e : TypeId} {size n : Nat} {v : Value} {xs : List Value} (h : w.ownsRow base e size v n xs) (hb : Below B w w1) (hB : w.heap.size ≤ B) : w1.ownsRow base e size v n xs :=
  h.kept (row := none) ⟨hb.os, hb.tape, hb.output, hb.size, fun k hk _ => hb.block k (by omega)⟩ (by cases v.ownBlock <;> simp)

theorem one_ok {k : IntKind} (x : Int) : ∀ u ∈ [Value.int k x], u.oneCell' = true := by simp [Value.oneCell']
theorem alloc_size {B : Nat} {w : World} (h : B ≤ w.heap.size) (o : Obj) : B ≤ (w.alloc o).heap.size := by simp; omega
end Go.Proofs.YtgcmjkimiakibaaGreatDoor

/-
  The bytes of characters, and the words of a loop that writes them.
-/
namespace Go.Proofs.YtgcmjkimiakibaaGreatDoor
open Go.RowKit

namespace Ru
/-- the bytes of characters -/
def wr (l : List Int) : List Int := l.flatMap Lib.encodeRuneZ
theorem wr_snoc (l : List Int) (c : Int) : wr (l ++ [c]) = wr l ++ Lib.encodeRuneZ c := by unfold wr; simp
theorem wr_len (l : List Int) : (wr l).length ≤ 4 * l.length := by
  induction l with
  | nil => simp [wr]
  | cons c t ih =>
    have := (Lib.encodeRuneZ_length c).2
    unfold wr at *
    rw [List.flatMap_cons, List.length_append, List.length_cons]
    omega
theorem wr_by (l : List Int) : By (wr l) := fun c hc => by
  unfold wr at hc
  obtain ⟨x, _, hx⟩ := List.mem_flatMap.1 hc
  exact Lib.encodeRuneZ_byte x c hx
end Ru
theorem cells_enc (c : Int) : Lib.runeCells c = nums .u8 (Lib.encodeRuneZ c) := rfl

def WriteAt (w : World) (l : List Int) (v3 v11 : Value) (wr : World) : Prop :=
  ∃ k : Nat, k ≤ l.length ∧ v11 = .int .i64 k ∧ wr.ownsRow w.heap.size 5 1 v3 (Ru.wr (l.take k)).length (nums .u8 (Ru.wr (l.take k))) ∧ Below w.heap.size w wr

end Go.Proofs.YtgcmjkimiakibaaGreatDoor

/-
  Words for texts that are made. No run of the program in this text.
-/
namespace Go.Proofs.YtgcmjkimiakibaaGreatDoor
open Go.RowKit

namespace Tk
/-- characters as a text -/
def str (l : List Int) : ByteArray := strOfNums (Ru.wr l)
end Tk

theorem made_form {k : IntKind} {E : TypeId} {l : List Int} {w : World} {e : Ending} {w' : World} (h : Made k E l w e w') : ∃ (A : Option Addr) (cap : Nat), e = .returned (.slice A l.length cap) ∧ l.length ≤ cap ∧ Bs w' w'.heap.size k A l ∧ Below w.heap.size w w' := by
  obtain ⟨v, rfl, hown, hb⟩ := h
  rcases hown.2 with ⟨rfl, h0⟩ | ⟨x, cap, cur, rfl, _, _, hc, _⟩
  · exact ⟨none, 0, by rw [h0], by omega, fun hl => by omega, hb⟩
  · exact ⟨_, cap, rfl, hc, Bs.of_own hown, hb⟩
theorem own_bs {w : World} {B : Nat} {k : IntKind} {E : TypeId} {l : List Int} {v : Value} (h : w.ownsRow B E 1 v l.length (nums k l)) : ∃ A cap, v = .slice A l.length cap ∧ l.length ≤ cap ∧ Bs w w.heap.size k A l := by
  rcases h.2 with ⟨rfl, h0⟩ | ⟨x, cap, cur, rfl, _, _, hc, _⟩
  · exact ⟨none, 0, by rw [h0], by omega, fun hl => by omega⟩
  · exact ⟨_, cap, rfl, hc, Bs.of_own h⟩
theorem conv_bytes {w : World} {B : Nat} {A : Option Addr} {l : List Int} (c : Nat) (h : Bs w B .u8 A l) : (convert 28 9 (.slice A l.length c)).run Tryz.prog w = .ok (.string (strOfNums l)) w := by
  by_cases h0 : 0 < l.length
  · obtain ⟨b, off, rfl, _, hp⟩ := h h0
    exact run_convert_bytes_arg w 28 5 Tryz.underlying28 Tryz.underlying5 b off l.length c l rfl hp 9 Tryz.underlying9
  · have hl : l = [] := List.eq_nil_of_length_eq_zero (by omega)
    subst hl
    cases A with
    | none => exact run_convert_bytes_nil w 28 5 Tryz.underlying28 Tryz.underlying5 0 c 9 Tryz.underlying9
    | some a => exact run_convert_bytes_back w 28 9 5 a c [] Tryz.underlying28 Tryz.underlying5 Tryz.underlying9 (fun j hj => by cases hj)
end Go.Proofs.YtgcmjkimiakibaaGreatDoor

/-
  Plain words of tokens: characters below 128. No run of the program in this text.
-/
namespace Go.Proofs.YtgcmjkimiakibaaGreatDoor
open Go.RowKit

namespace Tk
open Ru
/-- characters below 128 from there on -/
def ascL (l : List Int) (k : Nat) : List Int := (l.drop k).takeWhile fun c => decide (c < 128)
theorem ascL_yes {l : List Int} {k : Nat} (h : k < l.length) (h2 : g l k < 128) : ascL l k = g l k :: ascL l (k + 1) := by
  unfold ascL
  rw [List.drop_eq_getElem_cons h, List.takeWhile_cons, ← g_eq h, decide_eq_true h2]; rfl
theorem ascL_no {l : List Int} {k : Nat} (h : ¬ (k < l.length ∧ g l k < 128)) : ascL l k = [] := by
  unfold ascL
  by_cases c : k < l.length
  · rw [List.drop_eq_getElem_cons c, List.takeWhile_cons, ← g_eq c, decide_eq_false (fun h2 => h ⟨c, h2⟩)]; rfl
  · rw [List.drop_eq_nil_of_le (by omega)]; rfl
theorem ascL_len (l : List Int) (k : Nat) : (ascL l k).length ≤ l.length - k := by
  unfold ascL
  have h := (List.takeWhile_sublist (l := l.drop k) (fun c => decide (c < 128))).length_le
  rw [List.length_drop] at h
  exact h
def u8 (c : Int) : UInt8 := UInt8.ofNat c.toNat
/-- a text spells characters below 128 -/
def Sp (t : ByteArray) (ds : List Int) : Prop := t.data.toList = ds.map u8
theorem sp_nil : Sp ⟨#[]⟩ [] := rfl
theorem sp_next {t : ByteArray} {ds : List Int} {x : Int} (h : Sp t ds) : Sp (t ++ ⟨#[UInt8.ofNat x.toNat]⟩) (ds ++ [x]) := by
  unfold Sp at *
  rw [ByteArray.data_append, Array.toList_append, h, List.map_append]; rfl
theorem sp_str {t : ByteArray} {ds : List Int} (h : Sp t ds) : t = strOfNums ds := by
  unfold Sp at h
  have : t = ⟨t.data⟩ := rfl
  rw [this]
  unfold strOfNums
  congr 1
  rw [← Array.toArray_toList (xs := t.data), h]
  rfl
theorem sp_len {t : ByteArray} {ds : List Int} (h : Sp t ds) : t.size = ds.length := by rw [sp_str h, strOfNums_size]
end Tk
end Go.Proofs.YtgcmjkimiakibaaGreatDoor

/-
  Signs and digits of a text: plain words.
-/
namespace Go.Proofs.YtgcmjkimiakibaaGreatDoor
open Go.RowKit

namespace Fx
/-- the byte at a place; 0 behind the end -/
def at' (l : List UInt8) (k : Nat) : UInt8 := l.getD k 0
def isD (c : UInt8) : Bool := decide (48 ≤ (c.toNat : Int) ∧ (c.toNat : Int) ≤ 57)
def sgn (l : List UInt8) (k : Nat) : Nat := if (at' l k = 43 ∨ at' l k = 45) then k + 1 else k
def dig (l : List UInt8) (k : Nat) : Nat := k + ((l.drop k).takeWhile isD).length
theorem get_at (s : ByteArray) (k : Nat) (h : k < s.size) : at' s.data.toList k = s[k] := by
  unfold at'
  have h' : k < s.data.toList.length := by simpa using h
  rw [List.getD_eq_getElem?_getD, List.getElem?_eq_getElem h']; rfl
theorem get_past (s : ByteArray) (k : Nat) (h : s.size ≤ k) : at' s.data.toList k = 0 := by
  unfold at'
  have h' : s.data.toList.length ≤ k := by simpa using h
  rw [List.getD_eq_getElem?_getD, List.getElem?_eq_none h']; rfl
theorem dig_no (l : List UInt8) (k : Nat) (h : isD (at' l k) = false) : dig l k = k := by
  unfold at' at h
  unfold dig
  by_cases hk : k < l.length
  · rw [List.drop_eq_getElem_cons hk, List.takeWhile_cons]
    rw [List.getD_eq_getElem?_getD, List.getElem?_eq_getElem hk] at h
    simp at h; simp [h]
  · rw [List.drop_eq_nil_of_le (by omega)]; rfl
theorem isD_zero : isD 0 = false := by decide
theorem dig_yes (l : List UInt8) (k : Nat) (h : isD (at' l k) = true) : dig l k = dig l (k + 1) := by
  unfold at' at h
  have hk : k < l.length := by
    by_cases hk : k < l.length
    · exact hk
    · rw [List.getD_eq_getElem?_getD, List.getElem?_eq_none (by omega)] at h; exact absurd h (by decide)
  unfold dig
  rw [List.drop_eq_getElem_cons hk, List.takeWhile_cons]
  rw [List.getD_eq_getElem?_getD, List.getElem?_eq_getElem hk] at h
  simp at h; simp [h]; omega
theorem dig_lo (l : List UInt8) (k : Nat) : k ≤ dig l k := by unfold dig; omega
theorem dig_hi (l : List UInt8) (k : Nat) (h : k ≤ l.length) : dig l k ≤ l.length := by
  unfold dig
  have h1 : ((l.drop k).takeWhile isD).length ≤ (l.drop k).length := List.takeWhile_sublist .. |>.length_le
  simp at h1; omega
theorem isD_of {c : UInt8} (h : 48 ≤ (c.toNat : Int)) (h' : (c.toNat : Int) ≤ 57) : isD c = true := by
  unfold isD; exact decide_eq_true ⟨h, h'⟩
theorem isD_not {c : UInt8} (h : (c.toNat : Int) < 48 ∨ 57 < (c.toNat : Int)) : isD c = false := by
  unfold isD; exact decide_eq_false (by omega)
end Fx

theorem byte_eq {c : UInt8} {n : Nat} (hn : n < 256) : ((c.toNat : Int) == (n : Int)) = true ↔ c = UInt8.ofNat n := by
  rw [beq_iff_eq]
  constructor
  · intro h; apply UInt8.toNat_inj.1; rw [UInt8.toNat_ofNat']; omega
  · rintro rfl; rw [UInt8.toNat_ofNat']; omega

end Go.Proofs.YtgcmjkimiakibaaGreatDoor

/-
  The parts of a decimal: plain words.
-/
namespace Go.Proofs.YtgcmjkimiakibaaGreatDoor
open Go.RowKit

namespace Fx
def spS (l : List UInt8) : Nat := sgn l 0
def spW (l : List UInt8) : Nat := dig l (spS l)
/-- the place behind the digits -/
def spDof (l : List UInt8) (w : Nat) : Nat := if at' l w = 46 ∧ w + 1 < dig l (w + 1) then dig l (w + 1) else w
def spD (l : List UInt8) : Nat := spDof l (spW l)
/-- the place behind the exponent, if there is one -/
def spEof (l : List UInt8) (d : Nat) : Nat := if (at' l d = 101 ∨ at' l d = 69) ∧ sgn l (d + 1) < dig l (sgn l (d + 1)) then dig l (sgn l (d + 1)) else d
def spE (l : List UInt8) : Nat := spEof l (spD l)

theorem sgn_lo (l : List UInt8) (k : Nat) : k ≤ sgn l k := by unfold sgn; split <;> omega
theorem at_zero {l : List UInt8} {k : Nat} (h : ¬ k < l.length) : at' l k = 0 := by
  unfold at'; rw [List.getD_eq_getElem?_getD, List.getElem?_eq_none (by omega)]; rfl
theorem sgn_hi (l : List UInt8) (k : Nat) (h : k ≤ l.length) : sgn l k ≤ l.length := by
  unfold sgn
  by_cases hk : k < l.length
  · split <;> omega
  · rw [at_zero hk]; simp; exact h
theorem spS_hi (l : List UInt8) : spS l ≤ l.length := sgn_hi l 0 (Nat.zero_le _)
theorem spS_one (l : List UInt8) : spS l ≤ 1 := by unfold spS sgn; split <;> omega
theorem spW_hi (l : List UInt8) : spW l ≤ l.length := dig_hi l _ (spS_hi l)
theorem spW_lo (l : List UInt8) : spS l ≤ spW l := dig_lo l _
theorem spDof_lo (l : List UInt8) (w : Nat) : w ≤ spDof l w := by unfold spDof; split <;> omega
theorem spDof_hi (l : List UInt8) (w : Nat) (h : w ≤ l.length) : spDof l w ≤ l.length := by
  unfold spDof; split
  · rename_i hc
    by_cases hw : w < l.length
    · exact dig_hi l _ (by omega)
    · rw [at_zero hw] at hc; exact absurd hc.1 (by decide)
  · exact h
theorem spD_hi (l : List UInt8) : spD l ≤ l.length := spDof_hi l _ (spW_hi l)
theorem spD_lo (l : List UInt8) : spW l ≤ spD l := spDof_lo l _
theorem spEof_lo (l : List UInt8) (w : Nat) : w ≤ spEof l w := by
  unfold spEof; split
  · have := dig_lo l (sgn l (w + 1)); have := sgn_lo l (w + 1); omega
  · omega
theorem spEof_hi (l : List UInt8) (w : Nat) (h : w ≤ l.length) : spEof l w ≤ l.length := by
  unfold spEof; split
  · rename_i hc
    by_cases hw : w < l.length
    · exact dig_hi l _ (sgn_hi l _ (by omega))
    · rw [at_zero hw] at hc; exact absurd hc.1 (by decide)
  · exact h
theorem spE_hi (l : List UInt8) : spE l ≤ l.length := spEof_hi l _ (spD_hi l)
theorem spE_lo (l : List UInt8) : spD l ≤ spE l := spEof_lo l _

/-- the ways behind the whole digits -/
inductive WayD (s : ByteArray) (w d : Nat) : Prop
  | frac (h : w < s.size) (hb : ((s[w].toNat : Int) == 46) = true) (hd : d = dig s.data.toList (w + 1)) (hl : w + 1 < d)
  | point (h : w < s.size) (hb : ((s[w].toNat : Int) == 46) = true) (hd : dig s.data.toList (w + 1) = w + 1) (hw : d = w)
  | other (h : w < s.size) (hb : ((s[w].toNat : Int) == 46) = false) (hw : d = w)
  | past (h : ¬ w < s.size) (hw : d = w)
theorem wayD (s : ByteArray) (w : Nat) : WayD s w (spDof s.data.toList w) := by
  by_cases h : w < s.size
  · have hg := get_at s w h
    by_cases hb : s[w] = 46
    · have hb' : ((s[w].toNat : Int) == 46) = true := by rw [hb]; rfl
      by_cases hd : w + 1 < dig s.data.toList (w + 1)
      · have e : spDof s.data.toList w = dig s.data.toList (w + 1) := by unfold spDof; rw [hg, hb, if_pos ⟨rfl, hd⟩]
        exact .frac h hb' e (by omega)
      · have e : spDof s.data.toList w = w := by unfold spDof; rw [if_neg (fun c => hd c.2)]
        exact .point h hb' (by have := dig_lo s.data.toList (w + 1); omega) e
    · have hb' : ((s[w].toNat : Int) == 46) = false := by
        rw [Bool.eq_false_iff]; intro hh; exact hb ((byte_eq (n := 46) (by decide)).1 hh)
      have e : spDof s.data.toList w = w := by unfold spDof; rw [hg, if_neg (fun c => hb c.1)]
      exact .other h hb' e
  · have e : spDof s.data.toList w = w := by unfold spDof; rw [get_past s w (by omega), if_neg (fun c => absurd c.1 (by decide))]
    exact .past h e

/-- the ways behind all digits -/
inductive WayE (s : ByteArray) (d e : Nat) : Prop
  | yes (h : d < s.size) (hb : ((s[d].toNat : Int) == 101) = true ∨ (((s[d].toNat : Int) == 101) = false ∧ ((s[d].toNat : Int) == 69) = true)) (he : e = dig s.data.toList (sgn s.data.toList (d + 1))) (hl : sgn s.data.toList (d + 1) < e)
  | bare (h : d < s.size) (hb : ((s[d].toNat : Int) == 101) = true ∨ (((s[d].toNat : Int) == 101) = false ∧ ((s[d].toNat : Int) == 69) = true)) (hd : dig s.data.toList (sgn s.data.toList (d + 1)) = sgn s.data.toList (d + 1)) (he : e = d)
  | other (h : d < s.size) (hb : ((s[d].toNat : Int) == 101) = false) (hc : ((s[d].toNat : Int) == 69) = false) (he : e = d)
  | past (h : ¬ d < s.size) (he : e = d)
theorem wayE (s : ByteArray) (d : Nat) : WayE s d (spEof s.data.toList d) := by
  by_cases h : d < s.size
  · have hg := get_at s d h
    by_cases hb : s[d] = 101 ∨ s[d] = 69
    · have hb' : ((s[d].toNat : Int) == 101) = true ∨ (((s[d].toNat : Int) == 101) = false ∧ ((s[d].toNat : Int) == 69) = true) := by
        rcases hb with hb | hb
        · left; rw [hb]; rfl
        · right; rw [hb]; exact ⟨rfl, rfl⟩
      by_cases hd : sgn s.data.toList (d + 1) < dig s.data.toList (sgn s.data.toList (d + 1))
      · have e : spEof s.data.toList d = dig s.data.toList (sgn s.data.toList (d + 1)) := by unfold spEof; rw [hg, if_pos ⟨hb, hd⟩]
        exact .yes h hb' e (by omega)
      · have e : spEof s.data.toList d = d := by unfold spEof; rw [if_neg (fun c => hd c.2)]
        exact .bare h hb' (by have := dig_lo s.data.toList (sgn s.data.toList (d + 1)); omega) e
    · have hb1 : ((s[d].toNat : Int) == 101) = false := by
        rw [Bool.eq_false_iff]; intro hh; exact hb (Or.inl ((byte_eq (n := 101) (by decide)).1 hh))
      have hb2 : ((s[d].toNat : Int) == 69) = false := by
        rw [Bool.eq_false_iff]; intro hh; exact hb (Or.inr ((byte_eq (n := 69) (by decide)).1 hh))
      have e : spEof s.data.toList d = d := by unfold spEof; rw [hg, if_neg (fun c => hb c.1)]
      exact .other h hb1 hb2 e
  · have e : spEof s.data.toList d = d := by unfold spEof; rw [get_past s d (by omega), if_neg (fun c => absurd c.1 (by decide))]
    exact .past h e
end Fx
end Go.Proofs.YtgcmjkimiakibaaGreatDoor

/-
  How long a decimal is: plain words.
-/
namespace Go.Proofs.YtgcmjkimiakibaaGreatDoor
open Go.RowKit

namespace Fx
/-- how many bytes the longest decimal has -/
def len (l : List UInt8) : Nat := if spD l = spS l then 0 else spE l
theorem len_hi (l : List UInt8) : len l ≤ l.length := by unfold len; split; omega; exact spE_hi l
end Fx
end Go.Proofs.YtgcmjkimiakibaaGreatDoor

/-
  Plain words of digits. No run of the program in this text.
-/
namespace Go.Proofs.YtgcmjkimiakibaaGreatDoor
open Go.RowKit

namespace Fx
theorem isD_dig (l : List UInt8) (i : Nat) : isD (at' l i) = decide (i < dig l i) := by
  cases h : isD (at' l i)
  · rw [dig_no l i h]; simp
  · have := dig_yes l i h; have := dig_lo l (i + 1); symm; apply decide_eq_true; omega
theorem at_lt {l : List UInt8} {i : Nat} (h : isD (at' l i) = true) : i < l.length := by
  by_cases hi : i < l.length
  · exact hi
  · rw [at_zero hi] at h; exact absurd h (by decide)
end Fx
end Go.Proofs.YtgcmjkimiakibaaGreatDoor
