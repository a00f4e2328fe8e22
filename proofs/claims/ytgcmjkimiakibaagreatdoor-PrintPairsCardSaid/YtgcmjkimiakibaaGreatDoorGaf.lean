/-
  Plain words of printing: what each token's text is, in characters; which tokens may be. No run of the program in this text.
-/
import Derived.Test.YtgcmjkimiakibaaGreatDoorGae
import Derived.Test.YtgcmjkimiakibaaGreatDoorGac
import Derived.Lib.Strings
import Derived.Laws.IdiomStrings
import Derived.Laws.BytesArg
import Derived.Lib.MapLaws
import Derived.Lib.TrimUEq
import Derived.Lib.ValidU
namespace Go.Proofs.YtgcmjkimiakibaaGreatDoor
namespace Pr
open Ru Tk

/-! ### escapes -/
def hexF : Nat → Int → List Int
  | 0, _ => []
  | f + 1, c => if c < 16 then [hx c] else hexF f (c / 16) ++ [hx (c % 16)]
/-- a character's number in hex digits -/
def hexC (c : Int) : List Int := hexF 6 c
def escC (c : Int) : List Int := 92 :: (hexC c ++ [32])
theorem hexF_len : ∀ (f : Nat) (c : Int), (hexF f c).length ≤ f
  | 0, _ => by unfold hexF; simp
  | f + 1, c => by
    unfold hexF
    split
    · simp
    · have := hexF_len f (c / 16)
      rw [List.length_append]; simp; omega
theorem hexF_pos (f : Nat) (c : Int) : 1 ≤ (hexF (f + 1) c).length := by
  unfold hexF
  split <;> simp
theorem hx_chr {d : Int} (h0 : 0 ≤ d) (h1 : d ≤ 15) : (48 ≤ hx d ∧ hx d ≤ 57) ∨ (97 ≤ hx d ∧ hx d ≤ 102) := by unfold hx; omega
theorem hexF_chr : ∀ (f : Nat) (c : Int), 0 ≤ c → ∀ x ∈ hexF f c, (48 ≤ x ∧ x ≤ 57) ∨ (97 ≤ x ∧ x ≤ 102)
  | 0, _, _ => by intro x hx; unfold hexF at hx; simp at hx
  | f + 1, c, h => by
    intro x hm
    unfold hexF at hm
    split at hm
    · rw [List.mem_singleton] at hm
      subst hm
      exact hx_chr h (by omega)
    · rcases List.mem_append.1 hm with hm | hm
      · exact hexF_chr f (c / 16) (by omega) x hm
      · rw [List.mem_singleton] at hm
        subst hm
        exact hx_chr (by omega) (by omega)
theorem escC_asc {c : Int} (h : 0 ≤ c) : ∀ x ∈ escC c, x = 92 ∨ x = 32 ∨ (48 ≤ x ∧ x ≤ 57) ∨ (97 ≤ x ∧ x ≤ 102) := by
  intro x hx
  unfold escC at hx
  rcases List.mem_cons.1 hx with rfl | hx
  · exact .inl rfl
  · rcases List.mem_append.1 hx with hx | hx
    · exact .inr (.inr (hexF_chr 6 c h x hx))
    · rw [List.mem_singleton] at hx; exact .inr (.inl hx)
/-- digits that are read -/
theorem hexR_hexF : ∀ (f : Nat) (c : Int) (pre post : List Int) (m : Nat) (n : Int), 0 ≤ c → c < 16 ^ f → (hexF f c).length ≤ m →
    hexR m (pre ++ (hexF f c ++ post)) pre.length n = hexR (m - (hexF f c).length) (pre ++ (hexF f c ++ post)) (pre.length + (hexF f c).length) (n * 16 ^ (hexF f c).length + c)
  | 0, c, pre, post, m, n, h0, h1, _ => by
    have : c = 0 := by simp at h1; omega
    subst this
    simp [hexF]
  | f + 1, c, pre, post, m, n, h0, h1, hm => by
    by_cases h16 : c < 16
    · have e : hexF (f + 1) c = [hx c] := by unfold hexF; rw [if_pos h16]
      rw [e] at hm ⊢
      obtain ⟨m, rfl⟩ : ∃ m', m = m' + 1 := ⟨m - 1, by simp at hm; omega⟩
      have a0 : at' (pre ++ ([hx c] ++ post)) pre.length = hx c := at_app pre (hx c) post
      have v : hexV (hx c) = c := hexV_hx h0 (by omega)
      rw [hexR_yes (by rw [a0, v]; exact h0), a0, v]
      simp
    · have e : hexF (f + 1) c = hexF f (c / 16) ++ [hx (c % 16)] := by conv => lhs; unfold hexF
                                                                       rw [if_neg h16]
      rw [e] at hm ⊢
      have hl : (hexF f (c / 16) ++ [hx (c % 16)]).length = (hexF f (c / 16)).length + 1 := by simp
      rw [hl] at hm ⊢
      have e2 : pre ++ (hexF f (c / 16) ++ [hx (c % 16)] ++ post) = pre ++ (hexF f (c / 16) ++ (hx (c % 16) :: post)) := by simp
      rw [e2]
      have hlt : c / 16 < 16 ^ f := by
        rw [Int.pow_succ] at h1
        omega
      rw [hexR_hexF f (c / 16) pre (hx (c % 16) :: post) m n (by omega) hlt (by omega)]
      have e3 : pre ++ (hexF f (c / 16) ++ (hx (c % 16) :: post)) = (pre ++ hexF f (c / 16)) ++ (hx (c % 16) :: post) := by simp
      have a0 : at' (pre ++ (hexF f (c / 16) ++ (hx (c % 16) :: post))) (pre.length + (hexF f (c / 16)).length) = hx (c % 16) := by
        rw [e3, ← List.length_append]; exact at_app _ _ _
      have v : hexV (hx (c % 16)) = c % 16 := hexV_hx (by omega) (by omega)
      obtain ⟨q, hq⟩ : ∃ q, m - (hexF f (c / 16)).length = q + 1 := ⟨m - (hexF f (c / 16)).length - 1, by omega⟩
      rw [hq, hexR_yes (by rw [a0, v]; omega), a0, v]
      have e4 : m - ((hexF f (c / 16)).length + 1) = q := by omega
      rw [e4]
      have e5 : (n * 16 ^ (hexF f (c / 16)).length + c / 16) * 16 + c % 16 = n * 16 ^ ((hexF f (c / 16)).length + 1) + c := by
        rw [Int.pow_succ, Int.add_mul, Int.mul_assoc]
        omega
      rw [e5, Nat.add_assoc]
theorem Is_isB {c : Int} (h : Is c) : isB c = true := isB_iff.2 h
theorem Is_lt {c : Int} (h : Is c) : 0 ≤ c ∧ c ≤ 1114111 := by unfold Is at h; omega
/-- an escape that is read -/
theorem esc_any {pre post : List Int} {c : Int} (h : Is c) (h0 : c ≠ 0) : esc (pre ++ (escC c ++ post)) pre.length = true ∧ meant (pre ++ (escC c ++ post)) pre.length = (c, pre.length + (escC c).length) := by
  have hb := Is_lt h
  have hpos := hexF_pos 5 c
  have hlen := hexF_len 6 c
  have e : pre ++ (escC c ++ post) = (pre ++ [92]) ++ (hexC c ++ (32 :: post)) := by unfold escC; simp
  have el : (pre ++ ([92] : List Int)).length = pre.length + 1 := by simp
  have a0 : at' (pre ++ (escC c ++ post)) pre.length = 92 := at_app pre 92 _
  obtain ⟨d, r, hd⟩ : ∃ d r, hexC c = d :: r := by
    cases hh : hexC c with
    | nil => unfold hexC at hh; rw [hh] at hpos; simp at hpos
    | cons d r => exact ⟨d, r, rfl⟩
  have hdc := hexF_chr 6 c hb.1 d (by unfold hexC at hd; rw [hd]; simp)
  have a1 : at' (pre ++ (escC c ++ post)) (pre.length + 1) = d := by
    rw [e, hd, ← el]; exact at_app _ _ _
  have r6 : hexR 6 (pre ++ (escC c ++ post)) (pre.length + 1) 0 = (c, pre.length + 1 + (hexC c).length) := by
    have hr := hexR_hexF 6 c (pre ++ [92]) (32 :: post) 6 0 hb.1 (by show c < 16777216; omega) hlen
    rw [el] at hr
    rw [e]
    unfold hexC at *
    rw [hr]
    have a2 : at' ((pre ++ [92]) ++ (hexF 6 c ++ (32 :: post))) (pre.length + 1 + (hexF 6 c).length) = 32 := by
      have e2 : (pre ++ [92]) ++ (hexF 6 c ++ (32 :: post)) = ((pre ++ [92]) ++ hexF 6 c) ++ (32 :: post) := by simp
      rw [e2, ← el, ← List.length_append]; exact at_app _ _ _
    rw [hexR_no (by rw [a2]; decide)]
    simp
  have hcl : 1 ≤ (hexC c).length := hpos
  constructor
  · unfold esc
    apply decide_eq_true
    rw [a0, a1]
    omega
  · rw [meant_some r6 (by omega)]
    have e1 : meantN c = c := by
      unfold meantN
      rw [if_neg]
      rintro (e | e)
      · exact h0 e
      · rw [Is_isB h] at e; cases e
    have a2 : at' (pre ++ (escC c ++ post)) (pre.length + 1 + (hexC c).length) = 32 := by
      have e2 : pre ++ (escC c ++ post) = ((pre ++ [92]) ++ hexC c) ++ (32 :: post) := by unfold escC; simp
      rw [e2, ← el, ← List.length_append]; exact at_app _ _ _
    have e2 : meantK (pre ++ (escC c ++ post)) (pre.length + 1 + (hexC c).length) = pre.length + (escC c).length := by
      unfold meantK
      rw [a2, if_pos (show whiB 32 = true from rfl)]
      unfold escC
      simp; omega
    rw [e1, e2]

/-! ### names -/
/-- the character must be escaped -/
def must (dim : Bool) (l : List Int) (i : Nat) : Bool :=
  !witB (g l i) || ((decide (48 ≤ g l i ∧ g l i ≤ 57) && (decide (i = 0) || (decide (i = 1) && decide (g l 0 = 45)))) || (decide (l = [45]) || (dim && (decide (i = 0) && decide (g l i = 101 ∨ g l i = 69)))))
def piece (dim : Bool) (l : List Int) (i : Nat) : List Int := if must dim l i = true then escC (g l i) else [g l i]
/-- the first k characters -/
def nmT (dim : Bool) (l : List Int) (k : Nat) : List Int := (List.range k).flatMap (piece dim l)
/-- from the i-th on -/
def nmR (dim : Bool) (l : List Int) (i : Nat) : List Int := (List.range' i (l.length - i)).flatMap (piece dim l)
/-- a name's text -/
def nm (dim : Bool) (l : List Int) : List Int := nmT dim l l.length
theorem nmT_zero (dim : Bool) (l : List Int) : nmT dim l 0 = [] := rfl
theorem nmT_succ (dim : Bool) (l : List Int) (k : Nat) : nmT dim l (k + 1) = nmT dim l k ++ piece dim l k := by
  unfold nmT; rw [List.range_succ, List.flatMap_append]; simp
theorem nm_R (dim : Bool) (l : List Int) : nm dim l = nmR dim l 0 := by
  unfold nm nmT nmR; rw [List.range_eq_range']; rfl
theorem nmR_end {dim : Bool} {l : List Int} {i : Nat} (h : l.length ≤ i) : nmR dim l i = [] := by
  unfold nmR; rw [show l.length - i = 0 by omega]; rfl
theorem nmR_next {dim : Bool} {l : List Int} {i : Nat} (h : i < l.length) : nmR dim l i = piece dim l i ++ nmR dim l (i + 1) := by
  unfold nmR
  rw [show l.length - i = (l.length - (i + 1)) + 1 by omega, List.range'_succ, List.flatMap_cons]
/-- characters, none of which is 0 -/
def Ok (l : List Int) : Prop := ∀ c ∈ l, Is c ∧ c ≠ 0
theorem Ok.at_ {l : List Int} (h : Ok l) {i : Nat} (hi : i < l.length) : Is (g l i) ∧ g l i ≠ 0 := by rw [g_eq hi]; exact h _ (List.getElem_mem hi)
theorem must_no {dim : Bool} {l : List Int} {i : Nat} (h : must dim l i = false) : witB (g l i) = true ∧ (i = 0 → ¬ (48 ≤ g l i ∧ g l i ≤ 57)) ∧ (i = 1 → g l 0 = 45 → ¬ (48 ≤ g l i ∧ g l i ≤ 57)) ∧ l ≠ [45] ∧ (dim = true → i = 0 → g l i ≠ 101 ∧ g l i ≠ 69) := by
  unfold must at h
  simp only [Bool.or_eq_false_iff, Bool.and_eq_false_iff, decide_eq_false_iff_not, Bool.not_eq_false'] at h
  obtain ⟨h1, h2, h3, h4⟩ := h
  refine ⟨h1, ?_, ?_, h3, ?_⟩
  · intro hi
    rcases h2 with h2 | h2
    · exact h2
    · exact absurd hi h2.1
  · intro hi h45
    rcases h2 with h2 | h2
    · exact h2
    · rcases h2.2 with h2 | h2
      · exact absurd hi h2
      · exact absurd h45 h2
  · intro hd hi
    rcases h4 with h4 | h4 | h4
    · rw [h4] at hd; cases hd
    · exact absurd hi h4
    · omega
/-- one piece that is read -/
theorem one_piece {dim : Bool} {l pre post : List Int} {i : Nat} (h : Ok l) (hi : i < l.length) :
    inN (pre ++ (piece dim l i ++ post)) pre.length = true ∧ oneN (pre ++ (piece dim l i ++ post)) pre.length = (g l i, pre.length + (piece dim l i).length) := by
  obtain ⟨hc, h0⟩ := h.at_ hi
  unfold piece
  cases hm : must dim l i
  · rw [if_neg (by decide)]
    have hw := (must_no hm).1
    have h92 : g l i ≠ 92 := fun e => by rw [e] at hw; cases hw
    have a0 : at' (pre ++ ([g l i] ++ post)) pre.length = g l i := at_app pre (g l i) post
    constructor
    · unfold inN; rw [a0, hw, Bool.or_true]
    · unfold oneN; rw [a0, if_neg h92]; rfl
  · rw [if_pos rfl]
    obtain ⟨h1, h2⟩ := esc_any (pre := pre) (post := post) hc h0
    have a0 : at' (pre ++ (escC (g l i) ++ post)) pre.length = 92 := at_app pre 92 _
    constructor
    · unfold inN; rw [h1]; rfl
    · unfold oneN; rw [a0, if_pos rfl, h2]
theorem name_nmR {dim : Bool} {l : List Int} (h : Ok l) : ∀ (m i : Nat) (pre post : List Int), l.length - i = m → inN (pre ++ (nmR dim l i ++ post)) (pre.length + (nmR dim l i).length) = false →
    name (pre ++ (nmR dim l i ++ post)) pre.length = (l.drop i, pre.length + (nmR dim l i).length)
  | 0, i, pre, post, hm, he => by
    rw [nmR_end (by omega)] at he ⊢
    have he' : inN (pre ++ ([] ++ post)) pre.length = false := he
    rw [name_no he', List.drop_eq_nil_of_le (by omega)]; rfl
  | m + 1, i, pre, post, hm, he => by
    have hi : i < l.length := by omega
    rw [nmR_next hi] at he ⊢
    have e : pre ++ (piece dim l i ++ nmR dim l (i + 1) ++ post) = pre ++ (piece dim l i ++ (nmR dim l (i + 1) ++ post)) := by simp
    obtain ⟨h1, h2⟩ := one_piece (dim := dim) (pre := pre) (post := nmR dim l (i + 1) ++ post) h hi
    have e2 : pre ++ (piece dim l i ++ (nmR dim l (i + 1) ++ post)) = (pre ++ piece dim l i) ++ (nmR dim l (i + 1) ++ post) := by simp
    have ih := name_nmR (dim := dim) h m (i + 1) (pre ++ piece dim l i) post (by omega) (by
      rw [← e2, ← e]
      rw [List.length_append] at he ⊢
      rw [Nat.add_assoc]; exact he)
    rw [e, name_yes h1, h2]
    rw [← e2, List.length_append] at ih
    simp only
    rw [ih, List.drop_eq_getElem_cons hi, ← g_eq hi, List.length_append, Nat.add_assoc]
theorem name_nm {dim : Bool} {l pre post : List Int} (h : Ok l) (he : inN (pre ++ (nm dim l ++ post)) (pre.length + (nm dim l).length) = false) :
    name (pre ++ (nm dim l ++ post)) pre.length = (l, pre.length + (nm dim l).length) := by
  rw [nm_R] at he ⊢
  have := name_nmR h l.length 0 pre post rfl he
  rwa [List.drop_zero] at this
/-- what stands first in a name's text -/
theorem nm_first {dim : Bool} {l pre post : List Int} (h : Ok l) (hn : l ≠ []) :
    (esc (pre ++ (nm dim l ++ post)) pre.length = true ∧ at' (pre ++ (nm dim l ++ post)) pre.length = 92) ∨
    (witB (at' (pre ++ (nm dim l ++ post)) pre.length) = true ∧ ¬ (48 ≤ at' (pre ++ (nm dim l ++ post)) pre.length ∧ at' (pre ++ (nm dim l ++ post)) pre.length ≤ 57) ∧ (dim = true → at' (pre ++ (nm dim l ++ post)) pre.length ≠ 101 ∧ at' (pre ++ (nm dim l ++ post)) pre.length ≠ 69)) := by
  have hi : 0 < l.length := List.length_pos_iff.2 hn
  rw [nm_R, nmR_next hi]
  have e : pre ++ (piece dim l 0 ++ nmR dim l (0 + 1) ++ post) = pre ++ (piece dim l 0 ++ (nmR dim l (0 + 1) ++ post)) := by simp
  rw [e]
  obtain ⟨hc, h0⟩ := h.at_ hi
  unfold piece
  cases hm : must dim l 0
  · right
    rw [if_neg (by decide)]
    have a0 : at' (pre ++ ([g l 0] ++ (nmR dim l (0 + 1) ++ post))) pre.length = g l 0 := at_app pre (g l 0) _
    rw [a0]
    obtain ⟨m1, m2, _, _, m5⟩ := must_no hm
    exact ⟨m1, m2 rfl, fun hd => m5 hd rfl⟩
  · left
    rw [if_pos rfl]
    exact ⟨(esc_any (pre := pre) (post := nmR dim l (0 + 1) ++ post) hc h0).1, at_app pre 92 _⟩
theorem nm_begs {dim : Bool} {l pre post : List Int} (h : Ok l) (hn : l ≠ []) : begs (pre ++ (nm dim l ++ post)) pre.length = true := by
  have hi : 0 < l.length := List.length_pos_iff.2 hn
  rw [nm_R, nmR_next hi]
  have e : pre ++ (piece dim l 0 ++ nmR dim l (0 + 1) ++ post) = pre ++ (piece dim l 0 ++ (nmR dim l (0 + 1) ++ post)) := by simp
  rw [e]
  obtain ⟨hc, h0⟩ := h.at_ hi
  unfold begs may
  cases hm : must dim l 0
  · have ep : piece dim l 0 = [g l 0] := by unfold piece; rw [hm, if_neg (by decide)]
    rw [ep]
    have a0 : at' (pre ++ ([g l 0] ++ (nmR dim l (0 + 1) ++ post))) pre.length = g l 0 := at_app pre (g l 0) _
    rw [a0]
    obtain ⟨m1, m2, _, m4, _⟩ := must_no hm
    have m2 := m2 rfl
    unfold witB at m1
    simp only [Bool.or_eq_true, decide_eq_true_eq] at m1
    rcases m1 with m1 | m1
    · rw [m1]; rfl
    · have h45 : g l 0 = 45 := by omega
      have h1 : 1 < l.length := by
        rcases l with _ | ⟨a, _ | ⟨b, r⟩⟩
        · simp at hi
        · exact absurd (by rw [show a = 45 from h45]) m4
        · simp
      obtain ⟨hc1, h01⟩ := h.at_ h1
      rw [show (0 : Nat) + 1 = 1 from rfl, nmR_next h1]
      have e1 : pre ++ ([g l 0] ++ (piece dim l 1 ++ nmR dim l (1 + 1) ++ post)) = (pre ++ [g l 0]) ++ (piece dim l 1 ++ (nmR dim l (1 + 1) ++ post)) := by simp
      have el : (pre ++ [g l 0]).length = pre.length + 1 := by simp
      rw [e1, ← el]
      rw [h45]
      cases hm1 : must dim l 1
      · have ep1 : piece dim l 1 = [g l 1] := by unfold piece; rw [hm1, if_neg (by decide)]
        rw [ep1]
        have a1 : at' ((pre ++ [45]) ++ ([g l 1] ++ (nmR dim l (1 + 1) ++ post))) (pre ++ [45]).length = g l 1 := at_app _ (g l 1) _
        rw [a1]
        obtain ⟨k1, _, k3, _, _⟩ := must_no hm1
        have k3 := k3 rfl h45
        unfold witB at k1
        simp only [Bool.or_eq_true, decide_eq_true_eq] at k1
        rcases k1 with k1 | k1
        · rw [k1]; simp
        · have : g l 1 = 45 := by omega
          rw [this]; simp
      · have ep1 : piece dim l 1 = escC (g l 1) := by unfold piece; rw [hm1, if_pos rfl]
        rw [ep1, (esc_any (pre := pre ++ [45]) (post := nmR dim l (1 + 1) ++ post) hc1 h01).1]
        simp
  · have ep : piece dim l 0 = escC (g l 0) := by unfold piece; rw [hm, if_pos rfl]
    rw [ep, (esc_any (pre := pre) (post := nmR dim l (0 + 1) ++ post) hc h0).1]
    simp

/-! ### texts in quotes -/
def spec (c : Int) : Prop := c = 34 ∨ c = 92 ∨ c = 10 ∨ c = 12 ∨ c = 13
instance (c : Int) : Decidable (spec c) := by unfold spec; exact inferInstance
def qC (c : Int) : List Int := if spec c then escC c else [c]
def enq (l : List Int) : List Int := l.flatMap qC
theorem enq_snoc (l : List Int) (c : Int) : enq (l ++ [c]) = enq l ++ qC c := by unfold enq; simp
def adds (l : List Int) (r : Int × List Int × Nat) : Int × List Int × Nat := (r.1, l ++ r.2.1, r.2.2)
theorem qq_enq : ∀ (l pre post : List Int), Ok l → qq (pre ++ (enq l ++ post)) 34 pre.length = adds l (qq (pre ++ (enq l ++ post)) 34 (pre.length + (enq l).length))
  | [], pre, post, _ => by unfold enq adds; simp
  | c :: l, pre, post, h => by
    obtain ⟨hc, h0⟩ := h c (by simp)
    have e : pre ++ (enq (c :: l) ++ post) = pre ++ (qC c ++ (enq l ++ post)) := by unfold enq; simp
    have el : (enq (c :: l)).length = (qC c).length + (enq l).length := by unfold enq; simp
    have e2 : pre ++ (qC c ++ (enq l ++ post)) = (pre ++ qC c) ++ (enq l ++ post) := by simp
    have ih := qq_enq l (pre ++ qC c) post (fun d hd => h d (by simp [hd]))
    rw [← e2, List.length_append, Nat.add_assoc] at ih
    rw [e, el]
    have hp : push c (qq (pre ++ (qC c ++ (enq l ++ post))) 34 (pre.length + (qC c).length)) = adds (c :: l) (qq (pre ++ (qC c ++ (enq l ++ post))) 34 (pre.length + ((qC c).length + (enq l).length))) := by
      rw [ih]; rfl
    rw [← hp]
    by_cases hs : spec c
    · have eq : qC c = escC c := by unfold qC; rw [if_pos hs]
      rw [eq]
      obtain ⟨h1, h2⟩ := esc_any (pre := pre) (post := enq l ++ post) hc h0
      have hlt := (esc_lt h1).1
      have a0 : at' (pre ++ (escC c ++ (enq l ++ post))) pre.length = 92 := at_app pre 92 _
      have g0 : g (pre ++ (escC c ++ (enq l ++ post))) pre.length = 92 := by rw [← at_in (by omega)]; exact a0
      rw [qq_step ⟨by omega, by rw [g0]; decide⟩, g0, if_neg (by decide), if_pos h1, h2]
    · have eq : qC c = [c] := by unfold qC; rw [if_neg hs]
      rw [eq]
      unfold spec at hs
      have a0 : at' (pre ++ ([c] ++ (enq l ++ post))) pre.length = c := at_app pre c _
      have hlt : pre.length < (pre ++ ([c] ++ (enq l ++ post))).length := by simp
      have g0 : g (pre ++ ([c] ++ (enq l ++ post))) pre.length = c := by rw [← at_in hlt]; exact a0
      have hne : esc (pre ++ ([c] ++ (enq l ++ post))) pre.length = false := by
        unfold esc; rw [a0]; apply decide_eq_false; omega
      rw [qq_step ⟨hlt, by rw [g0]; omega⟩, g0, if_neg (by omega), if_neg (by rw [hne]; decide), if_neg (by omega)]
      rfl
end Pr
end Go.Proofs.YtgcmjkimiakibaaGreatDoor

/-
  A string's bytes, as numbers; what '[]byte(s)' gives.
-/
namespace Go.Proofs.YtgcmjkimiakibaaGreatDoor
open Go.RowKit

namespace Ru
/-- a string's bytes, as numbers -/
def bs (s : ByteArray) : List Int := s.data.toList.map fun b => (b.toNat : Int)
theorem bs_len (s : ByteArray) : (bs s).length = s.size := by unfold bs; rw [List.length_map, ← Lib.size_eq]
theorem bs_by (s : ByteArray) : By (bs s) := fun c hc => by
  unfold bs at hc
  obtain ⟨x, _, rfl⟩ := List.mem_map.1 hc
  have := x.toNat_lt
  omega
theorem bs_get (s : ByteArray) (k : Nat) (h : k < s.size) : g (bs s) k = (s[k].toNat : Int) := by
  rw [g_eq (by rw [bs_len]; exact h)]
  unfold bs
  rw [List.getElem_map]
  rfl
theorem bs_str {l : List Int} (h : By l) : bs (strOfNums l) = l := by
  unfold bs
  rw [strOfNums_data, List.map_map]
  apply List.ext_getElem
  · simp
  · intro i h1 h2
    simp only [List.getElem_map, Function.comp]
    have := h l[i] (List.getElem_mem h2)
    rw [UInt8.toNat_ofNat']
    omega
end Ru

/-- what '[]byte(s)' gives -/
theorem bytes_of (s : ByteArray) (w : World) : ∃ (C : Nat) (w0 : World), (convert 9 28 (.string s)).run Tryz.prog w = .ok (.slice (some ⟨w.heap.size, 0, none⟩) s.size C) w0 ∧
    (∀ j, j < s.size → w0.cell? ⟨w.heap.size, j, none⟩ = some (.int .u8 (Ru.g (Ru.bs s) j))) ∧ (∀ j, j < s.size → w0.frozen? ⟨w.heap.size, j, none⟩ = false) ∧ Below w.heap.size w w0 ∧ s.size ≤ C := by
  refine ⟨_, _, run_bytes_of_string w _ _ 5 s Tryz.underlying9 Tryz.underlying28 Tryz.underlying5, fun j hj => ?_, fun j hj => ?_, (Below.refl _ w).drew.alloc (Nat.le_refl _) _, grownCap_ge _ _ _ _⟩
  · have h := World.cell?_alloc_mark w.drew (bytesRow s (grownCap w s.size 0 5)) 5 ((bytesRow s (grownCap w s.size 0 5)).size, (bytesRow s (grownCap w s.size 0 5)).size + 1) j
    refine h.trans ?_
    rw [Ru.bs_get s j hj]
    unfold bytesRow
    rw [Array.getElem?_append_left (by simpa using hj)]
    simp only [Array.getElem?_map]
    rw [Array.getElem?_eq_getElem hj]
    rfl
  · have h := World.frozen?_alloc_mark w.drew (bytesRow s (grownCap w s.size 0 5)) 5 ((bytesRow s (grownCap w s.size 0 5)).size) ((bytesRow s (grownCap w s.size 0 5)).size + 1) j
    refine h.trans ?_
    have : j < (bytesRow s (grownCap w s.size 0 5)).size := by
      unfold bytesRow
      rw [Array.size_append, Array.size_map]
      have : s.data.size = s.size := rfl
      omega
    simp; omega

end Go.Proofs.YtgcmjkimiakibaaGreatDoor

/-
  Plain: texts as characters: when a text is one, and which. No run of the program in this text.
-/
namespace Go.Proofs.YtgcmjkimiakibaaGreatDoor
namespace Pr
open Ru Tk
open Go.Lib (encodeRuneZ)

/-- the text's characters are these -/
def Txt (t : ByteArray) (cs : List Int) : Prop := bs t = wr cs ∧ ∀ c ∈ cs, Is c
theorem wr_cons (c : Int) (l : List Int) : wr (c :: l) = encodeRuneZ c ++ wr l := rfl
theorem wr_nil : wr [] = [] := rfl
theorem wr_app (a b : List Int) : wr (a ++ b) = wr a ++ wr b := by unfold wr; rw [List.flatMap_append]
theorem bs_app (a b : ByteArray) : bs (a ++ b) = bs a ++ bs b := by unfold bs; rw [ByteArray.data_append, Array.toList_append, List.map_append]
theorem bs_inj {s t : ByteArray} (h : bs s = bs t) : s = t := by
  have h1 : s.data.toList = t.data.toList := by
    unfold bs at h
    apply List.ext_getElem
    · have := congrArg List.length h
      simpa using this
    · intro i h1 h2
      have h3 : (s.data.toList.map fun b => (b.toNat : Int))[i]? = (t.data.toList.map fun b => (b.toNat : Int))[i]? := by rw [h]
      rw [List.getElem?_map, List.getElem?_map, List.getElem?_eq_getElem h1, List.getElem?_eq_getElem h2] at h3
      simp only [Option.map_some, Option.some.injEq] at h3
      exact UInt8.toNat_inj.1 (by omega)
  cases s; cases t
  simp only at h1
  congr 1
  exact Array.ext' h1
theorem str_bs (l : List Int) : bs (str l) = wr l := bs_str (wr_by l)
theorem Txt.str {t : ByteArray} {cs : List Int} (h : Txt t cs) : t = str cs := bs_inj (by rw [h.1, str_bs])
theorem txt_str {cs : List Int} (h : ∀ c ∈ cs, Is c) : Txt (str cs) cs := ⟨str_bs cs, h⟩
theorem str_app (a b : List Int) : str (a ++ b) = str a ++ str b := bs_inj (by rw [bs_app, str_bs, str_bs, str_bs, wr_app])
theorem str_nil : str [] = ⟨#[]⟩ := rfl
theorem enc_split {c d : Int} {r s : List Int} (hc : Is c) (hd : Is d) (h : encodeRuneZ c ++ r = encodeRuneZ d ++ s) : c = d ∧ r = s := by
  have h1 := enc_ch hc r
  have h2 := enc_ch hd s
  rw [h] at h1
  have e1 : c = d := h1.1.symm.trans h2.1
  subst e1
  exact ⟨rfl, List.append_cancel_left h⟩
theorem enc_pos (c : Int) : 1 ≤ (encodeRuneZ c).length := (Lib.encodeRuneZ_length c).1
/-- what is known of the beginning is the beginning -/
theorem wr_pre : ∀ (a cs rest : List Int), (∀ c ∈ a, Is c) → (∀ c ∈ cs, Is c) → wr a ++ rest = wr cs → ∃ cs', cs = a ++ cs' ∧ rest = wr cs'
  | [], cs, rest, _, _, h => ⟨cs, rfl, h⟩
  | c :: a, [], rest, _, _, h => by
    exfalso
    have h1 := congrArg List.length h
    rw [wr_cons, wr_nil, List.length_append, List.length_append, List.length_nil] at h1
    have := enc_pos c
    omega
  | c :: a, d :: cs, rest, ha, hc, h => by
    rw [wr_cons, wr_cons, List.append_assoc] at h
    obtain ⟨rfl, h2⟩ := enc_split (ha c (by simp)) (hc d (by simp)) h
    obtain ⟨cs', rfl, e⟩ := wr_pre a cs rest (fun x hx => ha x (by simp [hx])) (fun x hx => hc x (by simp [hx])) h2
    exact ⟨cs', rfl, e⟩
theorem wr_inj {a b : List Int} (ha : ∀ c ∈ a, Is c) (hb : ∀ c ∈ b, Is c) (h : wr a = wr b) : a = b := by
  obtain ⟨cs, rfl, e⟩ := wr_pre a b [] ha hb (by rw [List.append_nil]; exact h)
  cases cs with
  | nil => rw [List.append_nil]
  | cons c r =>
    exfalso
    have h1 := congrArg List.length e
    rw [wr_cons, List.length_append, List.length_nil] at h1
    have := enc_pos c
    omega
theorem Txt.one {t : ByteArray} {a b : List Int} (ha : Txt t a) (hb : Txt t b) : a = b := wr_inj ha.2 hb.2 (ha.1.symm.trans hb.1)
/-- what decodes there, of a character's bytes -/
theorem decN_enc {c : Int} (h : Is c) (r : List Int) (n b0 b1 b2 b3 : Nat) (hn : (encodeRuneZ c).length ≤ n) (h0 : (b0 : Int) = g (encodeRuneZ c ++ r) 0) (h1 : (b1 : Int) = g (encodeRuneZ c ++ r) 1) (h2 : (b2 : Int) = g (encodeRuneZ c ++ r) 2) (h3 : (b3 : Int) = g (encodeRuneZ c ++ r) 3) :
    ((Lib.decodeN n b0 b1 b2 b3).1 : Int) = c ∧ (Lib.decodeN n b0 b1 b2 b3).2 = (encodeRuneZ c).length := by
  unfold Is at h
  by_cases c1 : c ≤ 127
  · rw [Lib.encodeRuneZ_one h.1 c1] at h0 ⊢
    simp only [List.cons_append, List.nil_append, g_zero] at h0
    unfold Lib.decodeN
    rw [if_pos (by omega)]
    exact ⟨h0, rfl⟩
  · by_cases c2 : c ≤ 2047
    · rw [Lib.encodeRuneZ_two (by omega) c2] at hn h0 h1 ⊢
      simp only [List.cons_append, List.nil_append, g_zero, g_succ, List.length_cons, List.length_nil] at hn h0 h1
      unfold Lib.decodeN
      rw [if_neg (by omega), if_pos (by omega), if_pos (by omega)]
      refine ⟨?_, rfl⟩
      simp only
      omega
    · by_cases c3 : c ≤ 65535
      · rw [Lib.encodeRuneZ_three (by omega)] at hn h0 h1 h2 ⊢
        simp only [List.cons_append, List.nil_append, g_zero, g_succ, List.length_cons, List.length_nil] at hn h0 h1 h2
        unfold Lib.decodeN
        rw [if_neg (by omega), if_neg (by omega), if_pos (by omega), if_pos (by omega)]
        refine ⟨?_, rfl⟩
        simp only
        omega
      · rw [Lib.encodeRuneZ_four (by omega) (by omega)] at hn h0 h1 h2 h3 ⊢
        simp only [List.cons_append, List.nil_append, g_zero, g_succ, List.length_cons, List.length_nil] at hn h0 h1 h2 h3
        unfold Lib.decodeN
        rw [if_neg (by omega), if_neg (by omega), if_neg (by omega), if_pos (by omega), if_pos (by omega)]
        refine ⟨?_, rfl⟩
        simp only
        omega
theorem getD_num (l : List UInt8) (i : Nat) : ((l.getD i 0).toNat : Int) = g (l.map fun b => (b.toNat : Int)) i := by
  unfold g
  rw [List.getD_eq_getElem?_getD, List.getD_eq_getElem?_getD, List.getElem?_map]
  cases l[i]? <;> rfl
/-- the next character of a text -/
theorem dec_at {t : ByteArray} {pos : Nat} {c : Int} {r : List Int} (hc : Is c) (h : (bs t).drop pos = encodeRuneZ c ++ r) : ((Utf8.decode t pos).1 : Int) = c ∧ (Utf8.decode t pos).2 = (encodeRuneZ c).length ∧ pos < t.size := by
  have hl := congrArg List.length h
  rw [List.length_drop, List.length_append, bs_len] at hl
  have hp := enc_pos c
  have hs : t.data.toList.length = t.size := by simp
  rw [Lib.decode_N]
  have hg : ∀ i, ((t.data.toList.getD (pos + i) 0).toNat : Int) = g (encodeRuneZ c ++ r) i := fun i => by
    rw [← h, getD_num, g_drop]; rfl
  obtain ⟨e1, e2⟩ := decN_enc hc r (t.data.toList.length - pos) _ _ _ _ (by omega) (hg 0) (hg 1) (hg 2) (hg 3)
  exact ⟨e1, e2, by omega⟩
theorem decL_enc {l : List UInt8} {c : Int} {r : List Int} (hc : Is c) (h : (l.map fun b => (b.toNat : Int)) = encodeRuneZ c ++ r) : ((Lib.decodeL l).1 : Int) = c ∧ (Lib.decodeL l).2 = (encodeRuneZ c).length := by
  have hl := congrArg List.length h
  rw [List.length_map, List.length_append] at hl
  rw [Lib.decodeL_N]
  have hg : ∀ i, ((l.getD i 0).toNat : Int) = g (encodeRuneZ c ++ r) i := fun i => by rw [← h, getD_num]
  exact decN_enc hc r l.length _ _ _ _ (by omega) (hg 0) (hg 1) (hg 2) (hg 3)
theorem valid_yes : ∀ (n : Nat) (l : List UInt8) (cs : List Int), (∀ c ∈ cs, Is c) → (l.map fun b => (b.toNat : Int)) = wr cs → Lib.validGoD n l = true
  | 0, _, _, _, _ => rfl
  | n + 1, l, [], _, h => by
    have hl : l = [] := by
      have := congrArg List.length h
      rw [wr_nil] at this
      simpa using this
    subst hl
    unfold Lib.validGoD
    rw [if_pos rfl]
  | n + 1, l, c :: cs, hc, h => by
    rw [wr_cons] at h
    obtain ⟨e1, e2⟩ := decL_enc (hc c (by simp)) h
    unfold Lib.validGoD
    by_cases h0 : l = []
    · rw [if_pos h0]
    · rw [if_neg h0]
      have hw := Lib.encodeRuneZ_length c
      rw [if_neg]
      · refine valid_yes n _ cs (fun x hx => hc x (by simp [hx])) ?_
        rw [List.map_drop, h, e2, List.drop_left]
      · rintro ⟨a1, a2⟩
        have hc65 : c = 65533 := by rw [← e1, a1]; rfl
        rw [e2, hc65] at a2
        revert a2
        decide
theorem valid_no : ∀ (n : Nat) (l : List UInt8), l.length ≤ n → Lib.validGoD n l = true → ∃ cs, (∀ c ∈ cs, Is c) ∧ (l.map fun b => (b.toNat : Int)) = wr cs
  | n, [], _, _ => ⟨[], by simp, rfl⟩
  | 0, a :: l, h, _ => by simp at h
  | n + 1, a :: l, hl, h => by
    unfold Lib.validGoD at h
    have hne : a :: l ≠ [] := by simp
    rw [if_neg hne] at h
    split at h
    · cases h
    · rename_i hv
      have he := Lib.encode_decode (a :: l) hne hv
      have hw := Lib.decodeL_width (a :: l)
      have hle := Lib.decodeL_le (a :: l) hne
      have hN := Lib.decodeL_N (a :: l)
      have hi := decode_is (a :: l).length ((a :: l).getD 0 0).toNat ((a :: l).getD 1 0).toNat ((a :: l).getD 2 0).toNat ((a :: l).getD 3 0).toNat (by simp) (UInt8.toNat_lt _) (UInt8.toNat_lt _) (UInt8.toNat_lt _) (UInt8.toNat_lt _) (by rw [← hN]; exact hv)
      rw [← hN] at hi
      have his : Is ((Lib.decodeL (a :: l)).1 : Int) := by rw [hi.1]; exact ch_is (by omega)
      obtain ⟨cs, h1, h2⟩ := valid_no n ((a :: l).drop (Lib.decodeL (a :: l)).2) (by rw [List.length_drop]; omega) h
      refine ⟨((Lib.decodeL (a :: l)).1 : Int) :: cs, ?_, ?_⟩
      · intro c hc
        rcases List.mem_cons.1 hc with rfl | hc
        · exact his
        · exact h1 c hc
      · rw [wr_cons, ← h2]
        have e3 : ((a :: l).take (Lib.decodeL (a :: l)).2).map (fun b => (b.toNat : Int)) = encodeRuneZ ((Lib.decodeL (a :: l)).1 : Int) := by
          rw [← he]
          unfold Lib.encodeRune
          rw [List.map_map]
          have hb := Lib.encodeRuneZ_byte ((Lib.decodeL (a :: l)).1 : Int)
          have : ∀ x ∈ encodeRuneZ ((Lib.decodeL (a :: l)).1 : Int), ((fun b : UInt8 => (b.toNat : Int)) ∘ fun x : Int => x.toNat.toUInt8) x = x := fun x hx => by
            have := hb x hx
            simp only [Function.comp]
            rw [show x.toNat.toUInt8.toNat = x.toNat % 256 from UInt8.toNat_ofNat']
            omega
          rw [List.map_congr_left this]
          simp
        rw [← e3, ← List.map_append, List.take_append_drop]
/-- utf8.ValidString, in characters -/
theorem valid_iff (t : ByteArray) : Lib.validD t.data.toList = true ↔ ∃ cs, Txt t cs := by
  constructor
  · intro h
    obtain ⟨cs, h1, h2⟩ := valid_no _ _ (Nat.le_refl _) h
    exact ⟨cs, h2, h1⟩
  · rintro ⟨cs, h1, h2⟩
    exact valid_yes _ _ cs h2 h1
/-- a byte below 128 is a character, in such a text -/
theorem mem_wr {c : Int} (h0 : 0 ≤ c) (h1 : c < 128) : ∀ {cs : List Int}, (∀ d ∈ cs, Is d) → (c ∈ wr cs ↔ c ∈ cs)
  | [], _ => by simp [wr_nil]
  | d :: cs, h => by
    have ih := mem_wr h0 h1 (cs := cs) (fun x hx => h x (by simp [hx]))
    rw [wr_cons, List.mem_append, ih, List.mem_cons]
    have : c ∈ encodeRuneZ d ↔ c = d := by
      have hd := h d (by simp)
      unfold Is at hd
      by_cases c1 : d ≤ 127
      · rw [Lib.encodeRuneZ_one hd.1 c1]; simp
      · by_cases c2 : d ≤ 2047
        · rw [Lib.encodeRuneZ_two (by omega) c2]; simp only [List.mem_cons, List.not_mem_nil, or_false]; omega
        · by_cases c3 : d ≤ 65535
          · rw [Lib.encodeRuneZ_three (by omega)]; simp only [List.mem_cons, List.not_mem_nil, or_false]; omega
          · rw [Lib.encodeRuneZ_four (by omega) (by omega)]; simp only [List.mem_cons, List.not_mem_nil, or_false]; omega
    rw [this]
theorem wr_asc' {l : List Int} (h : ∀ c ∈ l, 0 ≤ c ∧ c ≤ 127) : wr l = l := wr_asc l h
theorem txt_size {t : ByteArray} {cs : List Int} (h : Txt t cs) : t.size = (wr cs).length := by rw [← bs_len, h.1]
theorem wr_len_ge : ∀ (cs : List Int), cs.length ≤ (wr cs).length
  | [] => by simp
  | c :: cs => by
    have := wr_len_ge cs
    have := enc_pos c
    rw [wr_cons, List.length_append, List.length_cons]; omega
theorem txt_nil {t : ByteArray} {cs : List Int} (h : Txt t cs) : t.size = 0 ↔ cs = [] := by
  rw [txt_size h]
  constructor
  · intro h0
    have := wr_len_ge cs
    exact List.eq_nil_of_length_eq_zero (by omega)
  · rintro rfl; rfl
end Pr
end Go.Proofs.YtgcmjkimiakibaaGreatDoor
