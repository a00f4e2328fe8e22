/-
  Plain: each token's text, scanned. No run of the program in this text.
-/
import Derived.Test.YtgcmjkimiakibaaGreatDoorGah
namespace Go.Proofs.YtgcmjkimiakibaaGreatDoor
namespace Pr
open Ru Tk

/-- a token in characters: its kind, its text, its number -/
abbrev PT := Int × List Int × Int
def toTok (t : PT) : Tok := (t.1, str t.2.1, t.2.2)
/-- a Delim's character -/
def Del (c : Int) : Prop := begB c = false ∧ ¬ (48 ≤ c ∧ c ≤ 57) ∧ c ≠ 9 ∧ c ≠ 10 ∧ c ≠ 12 ∧ c ≠ 13 ∧ c ≠ 32 ∧ c ≠ 34 ∧ c ≠ 39 ∧ c ≠ 40 ∧ c ≠ 41 ∧ c ≠ 91 ∧ c ≠ 93 ∧ c ≠ 123 ∧ c ≠ 125 ∧ c ≠ 58 ∧ c ≠ 59 ∧ c ≠ 44
/-- what a token of this kind may have -/
def Kd (k : Int) (l : List Int) (n : Int) : Prop :=
  (k = 1 ∧ l = [] ∧ n = 0) ∨ ((k = 2 ∨ k = 3 ∨ k = 4 ∨ k = 5) ∧ l ≠ [] ∧ n = 0) ∨ ((k = 6 ∨ k = 7) ∧ n = 0) ∨
  ((k = 8 ∨ k = 9) ∧ l = [] ∧ n = Fx.stop n) ∨ (k = 10 ∧ l ≠ [] ∧ n = Fx.stop n) ∨ (k = 11 ∧ (∃ c, l = [c] ∧ Del c) ∧ n = 0) ∨
  (k = 12 ∧ (l = [40] ∨ l = [91] ∨ l = [123]) ∧ n = 0) ∨ (k = 13 ∧ (l = [41] ∨ l = [93] ∨ l = [125]) ∧ n = 0) ∨ ((k = 14 ∨ k = 15 ∨ k = 16) ∧ l = [] ∧ n = 0)
def One (t : PT) : Prop := Ok t.2.1 ∧ Kd t.1 t.2.1 t.2.2
/-- a token's text -/
def tokC (t : PT) : List Int :=
  if t.1 = 1 then [10]
  else if t.1 = 2 then nm false t.2.1
  else if t.1 = 3 then nm false t.2.1 ++ [40]
  else if t.1 = 4 then 64 :: nm false t.2.1
  else if t.1 = 5 then 35 :: nm false t.2.1
  else if t.1 = 6 then 34 :: (enq t.2.1 ++ [34])
  else if t.1 = 7 then 34 :: enq t.2.1
  else if t.1 = 8 then nC t.2.2
  else if t.1 = 9 then nC t.2.2 ++ [37]
  else if t.1 = 10 then nC t.2.2 ++ nm true t.2.1
  else if t.1 = 14 then [58]
  else if t.1 = 15 then [59]
  else if t.1 = 16 then [44]
  else t.2.1

theorem at_post (pre a post : List Int) (i : Nat) : at' (pre ++ (a ++ post)) (pre.length + a.length + i) = at' post i := by
  unfold at'
  have hl : (pre ++ (a ++ post)).length = pre.length + a.length + post.length := by simp; omega
  by_cases h : i < post.length
  · rw [if_pos (by omega), if_pos h]
    unfold g
    rw [List.getD_eq_getElem?_getD, List.getD_eq_getElem?_getD, List.getElem?_append_right (by omega), List.getElem?_append_right (by omega)]
    congr 2
    omega
  · rw [if_neg (by omega), if_neg h]
theorem at_post0 (pre a post : List Int) : at' (pre ++ (a ++ post)) (pre.length + a.length) = at' post 0 := at_post pre a post 0
theorem at_next (pre post : List Int) (c : Int) : at' (pre ++ (c :: post)) (pre.length + 1) = at' post 0 := at_post pre [c] post 0
/-- what may stand behind a token that needs a comment -/
def Stp (x : Int) : Prop := x = -1 ∨ x = 47 ∨ x = 10 ∨ x = 41 ∨ x = 93 ∨ x = 125 ∨ x = 34 ∨ x = 58 ∨ x = 59 ∨ x = 44
theorem Stp.wit {x : Int} (h : Stp x) : witB x = false ∧ x ≠ 92 ∧ begB x = false ∧ ¬ (48 ≤ x ∧ x ≤ 57) ∧ x ≠ 46 ∧ x ≠ 45 ∧ x ≠ 101 ∧ x ≠ 69 ∧ x ≠ 37 ∧ x ≠ 40 ∧ x ≠ 42 := by
  unfold Stp at h
  rcases h with rfl | rfl | rfl | rfl | rfl | rfl | rfl | rfl | rfl | rfl <;> decide
theorem inN_off {L : List Int} {k : Nat} (hw : witB (at' L k) = false) (h92 : at' L k ≠ 92) : inN L k = false := by
  unfold inN esc
  rw [hw, Bool.or_false]
  apply decide_eq_false
  intro h
  exact h92 h.1
theorem begs_off {L : List Int} {k : Nat} (hb : begB (at' L k) = false) (h92 : at' L k = 92 → ¬ (0 ≤ at' L (k + 1) ∧ at' L (k + 1) ≠ 10)) (h45 : at' L k = 45 → begB (at' L (k + 1)) = false ∧ at' L (k + 1) ≠ 92 ∧ at' L (k + 1) ≠ 45) : begs L k = false := by
  have e1 : esc L k = false := by
    unfold esc
    apply decide_eq_false
    intro h
    exact h92 h.1 h.2
  unfold begs may
  rw [hb, e1]
  by_cases h : at' L k = 45
  · obtain ⟨a1, a2, a3⟩ := h45 h
    have e2 : esc L (k + 1) = false := by
      unfold esc
      apply decide_eq_false
      intro h
      exact a2 h.1
    rw [a1, e2, decide_eq_false a3]
    simp
  · rw [decide_eq_false h]; simp
theorem ok_nat {l : List Int} (h : Ok l) : ∀ c ∈ l, 0 ≤ c := fun c hc => (Is_lt (h c hc).1).1
theorem g_at {L : List Int} {k : Nat} {c : Int} (h : at' L k = c) (h0 : 0 ≤ c) : g L k = c := by
  rw [← at_in (at_lt (by omega))]; exact h
/-- what a name's text begins with -/
theorem nm_head {dim : Bool} {l pre post : List Int} (h : Ok l) (hn : l ≠ []) (hN : ∀ c ∈ pre ++ (nm dim l ++ post), 0 ≤ c) :
    ∃ c, at' (pre ++ (nm dim l ++ post)) pre.length = c ∧ 0 ≤ c ∧ c ≠ 9 ∧ c ≠ 10 ∧ c ≠ 32 ∧ c ≠ 47 ∧ c ≠ 34 ∧ c ≠ 39 ∧ c ≠ 35 ∧ c ≠ 64 ∧ c ≠ 43 ∧ c ≠ 46 ∧ ¬ (48 ≤ c ∧ c ≤ 57) ∧ (dim = true → c ≠ 101 ∧ c ≠ 69) ∧ pre.length < (pre ++ (nm dim l ++ post)).length := by
  refine ⟨_, rfl, ?_⟩
  rcases nm_first (dim := dim) (pre := pre) (post := post) h hn with ⟨h1, h2⟩ | ⟨h1, h2, h3⟩
  · have hlt := (esc_lt h1).1
    rw [h2]
    refine ⟨by omega, by omega, by omega, by omega, by omega, by omega, by omega, by omega, by omega, by omega, by omega, by omega, fun _ => by omega, by omega⟩
  · have hlt : pre.length < (pre ++ (nm dim l ++ post)).length := by
      apply at_lt
      intro e
      rw [e] at h1
      cases h1
    have h0 := at_neg hN hlt
    generalize at' (pre ++ (nm dim l ++ post)) pre.length = c at *
    unfold witB begB at h1
    simp only [Bool.or_eq_true, decide_eq_true_eq] at h1
    refine ⟨h0, by omega, by omega, by omega, by omega, by omega, by omega, by omega, by omega, by omega, by omega, by omega, h3, hlt⟩
/-- a - that begins a name begins no number -/
theorem begs_nlen {L : List Int} {k : Nat} (hN : ∀ c ∈ L, 0 ≤ c) (hb : begs L k = true) (h0 : at' L k ≠ 43) (h1 : at' L k ≠ 46) (h2 : ¬ (48 ≤ at' L k ∧ at' L k ≤ 57)) : numB (at' L k) = true → nlen L k = 0 := by
  intro hn
  have h45 : at' L k = 45 := by
    unfold numB at hn
    have := of_decide_eq_true hn
    omega
  have hb2 : begB (at' L (k + 1)) = true ∨ at' L (k + 1) = 92 ∨ at' L (k + 1) = 45 := by
    unfold begs may at hb
    rw [h45] at hb
    have e1 : esc L k = false := by unfold esc; rw [h45]; rfl
    have e2 : begB 45 = false := rfl
    rw [e1, e2] at hb
    simp only [Bool.false_or, Bool.or_eq_true, Bool.and_eq_true, decide_eq_true_eq] at hb
    rcases hb.2 with (h | h) | h
    · exact .inl h
    · exact .inr (.inl (esc_lt h).2.1)
    · exact .inr (.inr h)
  refine nlen_none hN ?_ ?_ h2 hn
  · rcases hb2 with h | h | h
    · unfold begB at h; have := of_decide_eq_true h; omega
    · omega
    · omega
  · rcases hb2 with h | h | h
    · unfold begB at h; have := of_decide_eq_true h; omega
    · omega
    · omega
/-- past quotes, # and numbers -/
theorem nxt_rest {L : List Int} {k : Nat} {c : Int} (hg : g L k = c) (h34 : c ≠ 34) (h39 : c ≠ 39) (h35 : c = 35 → witB (at' L (k + 1)) = false ∧ esc L (k + 1) = false) (hn : numB c = true → nlen L k = 0) : nxt L k = rest L k :=
  nxt_past (by unfold Past; rw [hg]; exact ⟨h34, h39, h35, hn⟩)
section
variable {pre post l : List Int}
theorem nm_nat (h : Ok l) (hpre : ∀ c ∈ pre, 0 ≤ c) (hpost : ∀ c ∈ post, 0 ≤ c) (dim : Bool) : ∀ c ∈ pre ++ (nm dim l ++ post), 0 ≤ c := by
  intro c hc
  rcases List.mem_append.1 hc with hc | hc
  · exact hpre c hc
  · rcases List.mem_append.1 hc with hc | hc
    · unfold nm nmT at hc
      obtain ⟨i, hi, hc⟩ := List.mem_flatMap.1 hc
      have hi := List.mem_range.1 hi
      have := h.at_ hi
      unfold piece at hc
      split at hc
      · have := escC_asc (Is_lt this.1).1 c hc
        omega
      · rw [List.mem_singleton] at hc
        subst hc
        exact (Is_lt this.1).1
    · exact hpost c hc
/-- Ident and Func: the name, up to what is no more of it -/
theorem nxt_name (h : Ok l) (hn : l ≠ []) (hpre : ∀ c ∈ pre, 0 ≤ c) (hpost : ∀ c ∈ post, 0 ≤ c) (hw : witB (at' post 0) = false) (h92 : at' post 0 ≠ 92) :
    nxt (pre ++ (nm false l ++ post)) pre.length = (if at' post 0 = 40 then (3, str l, 0, pre.length + (nm false l).length + 1) else (2, str l, 0, pre.length + (nm false l).length)) ∧
    whiB (at' (pre ++ (nm false l ++ post)) pre.length) = false ∧ opn (pre ++ (nm false l ++ post)) pre.length = false := by
  have hN := nm_nat h hpre hpost false
  obtain ⟨c, hc, q0, q1, q2, q3, q4, q5, q6, q7, q8, q9, q10, q11, _, hlt⟩ := nm_head (dim := false) h hn hN
  have hb := nm_begs (dim := false) (pre := pre) (post := post) h hn
  have hgap := no_gap hc ⟨q1, q2, q3, q4⟩
  have hg := g_at hc q0
  have hname := name_nm (dim := false) (pre := pre) (post := post) h (inN_off (by rw [at_post0]; exact hw) (by rw [at_post0]; exact h92))
  have hnl := begs_nlen hN hb (by rw [hc]; exact q9) (by rw [hc]; exact q10) (by rw [hc]; exact q11)
  refine ⟨?_, hgap.1, hgap.2⟩
  rw [hc] at hnl
  rw [nxt_rest hg q5 q6 (fun e => absurd e q7) hnl]
  unfold rest
  rw [if_neg (fun hh => q8 (by rw [← hg]; exact hh.1)), if_pos hb, hname]
  simp only
  rw [at_post0]
/-- At -/
theorem nxt_at (h : Ok l) (hn : l ≠ []) (hw : witB (at' post 0) = false) (h92 : at' post 0 ≠ 92) :
    nxt (pre ++ (64 :: nm false l ++ post)) pre.length = (4, str l, 0, pre.length + (64 :: nm false l).length) ∧
    whiB (at' (pre ++ (64 :: nm false l ++ post)) pre.length) = false ∧ opn (pre ++ (64 :: nm false l ++ post)) pre.length = false := by
  have hc : at' (pre ++ (64 :: nm false l ++ post)) pre.length = 64 := at_app pre 64 _
  have hg := g_at hc (by omega)
  have hgap := no_gap hc (by omega)
  have e : pre ++ (64 :: nm false l ++ post) = (pre ++ [64]) ++ (nm false l ++ post) := by simp
  have el : (pre ++ ([64] : List Int)).length = pre.length + 1 := by simp
  have hb := nm_begs (dim := false) (pre := pre ++ [64]) (post := post) h hn
  have hname := name_nm (dim := false) (pre := pre ++ [64]) (post := post) h (inN_off (by rw [at_post0]; exact hw) (by rw [at_post0]; exact h92))
  rw [← e, el] at hb hname
  refine ⟨?_, hgap.1, hgap.2⟩
  rw [nxt_rest hg (by omega) (by omega) (fun e => absurd e (by omega)) (fun e => absurd e (by decide))]
  unfold rest
  rw [if_pos ⟨hg, hb⟩, hname]
  simp; omega
/-- Hash -/
theorem nxt_hash (h : Ok l) (hn : l ≠ []) (hw : witB (at' post 0) = false) (h92 : at' post 0 ≠ 92) :
    nxt (pre ++ (35 :: nm false l ++ post)) pre.length = (5, str l, 0, pre.length + (35 :: nm false l).length) ∧
    whiB (at' (pre ++ (35 :: nm false l ++ post)) pre.length) = false ∧ opn (pre ++ (35 :: nm false l ++ post)) pre.length = false := by
  have hc : at' (pre ++ (35 :: nm false l ++ post)) pre.length = 35 := at_app pre 35 _
  have hg := g_at hc (by omega)
  have hgap := no_gap hc (by omega)
  have e : pre ++ (35 :: nm false l ++ post) = (pre ++ [35]) ++ (nm false l ++ post) := by simp
  have el : (pre ++ ([35] : List Int)).length = pre.length + 1 := by simp
  have hf := nm_first (dim := false) (pre := pre ++ [35]) (post := post) h hn
  have hname := name_nm (dim := false) (pre := pre ++ [35]) (post := post) h (inN_off (by rw [at_post0]; exact hw) (by rw [at_post0]; exact h92))
  rw [← e, el] at hf hname
  refine ⟨?_, hgap.1, hgap.2⟩
  have h2 : witB (at' (pre ++ (35 :: nm false l ++ post)) (pre.length + 1)) = true ∨ esc (pre ++ (35 :: nm false l ++ post)) (pre.length + 1) = true := by
    rcases hf with hf | hf
    · exact .inr hf.1
    · exact .inl hf.1
  unfold nxt
  rw [hg, if_neg (by omega), if_pos ⟨rfl, h2⟩, hname]
  simp; omega
/-- a text in quotes, closed or not -/
theorem nxt_quote (h : Ok l) (r : Int × List Int × Nat) (hr : qq (pre ++ (34 :: enq l ++ post)) 34 (pre.length + (34 :: enq l).length) = r) :
    nxt (pre ++ (34 :: enq l ++ post)) pre.length = (r.1, str (l ++ r.2.1), 0, r.2.2) ∧
    whiB (at' (pre ++ (34 :: enq l ++ post)) pre.length) = false ∧ opn (pre ++ (34 :: enq l ++ post)) pre.length = false := by
  have hc : at' (pre ++ (34 :: enq l ++ post)) pre.length = 34 := at_app pre 34 _
  have hg := g_at hc (by omega)
  have hgap := no_gap hc (by omega)
  have e : pre ++ (34 :: enq l ++ post) = (pre ++ [34]) ++ (enq l ++ post) := by simp
  have el : (pre ++ ([34] : List Int)).length = pre.length + 1 := by simp
  have hq := qq_enq l (pre ++ [34]) post h
  rw [← e, el] at hq
  have e2 : pre.length + 1 + (enq l).length = pre.length + (34 :: enq l).length := by simp; omega
  rw [e2, hr] at hq
  refine ⟨?_, hgap.1, hgap.2⟩
  unfold nxt
  rw [hg, if_pos (.inl rfl), hq]
  rfl
theorem nxt_string (h : Ok l) : nxt (pre ++ (34 :: (enq l ++ [34]) ++ post)) pre.length = (6, str l, 0, pre.length + (34 :: (enq l ++ [34])).length) ∧
    whiB (at' (pre ++ (34 :: (enq l ++ [34]) ++ post)) pre.length) = false ∧ opn (pre ++ (34 :: (enq l ++ [34]) ++ post)) pre.length = false := by
  have e : pre ++ (34 :: (enq l ++ [34]) ++ post) = pre ++ (34 :: enq l ++ (34 :: post)) := by simp
  have a0 : at' (pre ++ (34 :: enq l ++ (34 :: post))) (pre.length + (34 :: enq l).length) = 34 := by rw [at_post0]; exact at_app [] 34 post
  have g0 := g_at a0 (by omega)
  have hr : qq (pre ++ (34 :: enq l ++ (34 :: post))) 34 (pre.length + (34 :: enq l).length) = (6, [], pre.length + (34 :: (enq l ++ [34])).length) := by
    rw [qq_end (fun hh => hh.2 g0)]
    congr 2
    simp; omega
  have := nxt_quote (pre := pre) (post := 34 :: post) h _ hr
  rw [e]
  rw [List.append_nil] at this
  exact this
theorem nxt_bad (h : Ok l) (h10 : at' post 0 = 10) : nxt (pre ++ (34 :: enq l ++ post)) pre.length = (7, str l, 0, pre.length + (34 :: enq l).length) ∧
    whiB (at' (pre ++ (34 :: enq l ++ post)) pre.length) = false ∧ opn (pre ++ (34 :: enq l ++ post)) pre.length = false := by
  have a0 : at' (pre ++ (34 :: enq l ++ post)) (pre.length + (34 :: enq l).length) = 10 := by rw [at_post0]; exact h10
  have g0 := g_at a0 (by omega)
  have hr : qq (pre ++ (34 :: enq l ++ post)) 34 (pre.length + (34 :: enq l).length) = (7, [], pre.length + (34 :: enq l).length) := by
    rw [qq_step ⟨at_lt (by rw [a0]; decide), by rw [g0]; decide⟩, g0, if_pos rfl]
  have := nxt_quote (pre := pre) (post := post) h _ hr
  rw [List.append_nil] at this
  exact this
/-- a Bad at the end of all is a String -/
theorem nxt_open (h : Ok l) : nxt (pre ++ (34 :: enq l ++ [])) pre.length = (6, str l, 0, (pre ++ (34 :: enq l ++ [])).length) ∧
    whiB (at' (pre ++ (34 :: enq l ++ [])) pre.length) = false ∧ opn (pre ++ (34 :: enq l ++ [])) pre.length = false := by
  have hr : qq (pre ++ (34 :: enq l ++ [])) 34 (pre.length + (34 :: enq l).length) = (6, [], (pre ++ (34 :: enq l ++ [])).length) := by
    rw [qq_end (by simp)]
    congr 2
    simp
  have := nxt_quote (pre := pre) (post := []) h _ hr
  simp only [List.append_nil] at this ⊢
  exact this
theorem num_nat {n : Int} (hpre : ∀ c ∈ pre, 0 ≤ c) (hpost : ∀ c ∈ post, 0 ≤ c) : ∀ c ∈ pre ++ (nC n ++ post), 0 ≤ c := by
  intro c hc
  rcases List.mem_append.1 hc with hc | hc
  · exact hpre c hc
  · rcases List.mem_append.1 hc with hc | hc
    · have := nC_chr n c hc; omega
    · exact hpost c hc
/-- Number, Percent and Dim, up to where the number ends -/
theorem nxt_num {n : Int} (hpre : ∀ c ∈ pre, 0 ≤ c) (hpost : ∀ c ∈ post, 0 ≤ c) (h1 : ¬ (48 ≤ at' post 0 ∧ at' post 0 ≤ 57)) (h2 : at' post 0 ≠ 46) (h3 : at' post 0 ≠ 101) (h4 : at' post 0 ≠ 69) :
    nxt (pre ++ (nC n ++ post)) pre.length =
      (if begs (pre ++ (nC n ++ post)) (pre.length + (nC n).length) = true then (10, str (name (pre ++ (nC n ++ post)) (pre.length + (nC n).length)).1, Fx.stop n, (name (pre ++ (nC n ++ post)) (pre.length + (nC n).length)).2)
       else if at' post 0 = 37 then (9, ⟨#[]⟩, Fx.stop n, pre.length + (nC n).length + 1) else (8, ⟨#[]⟩, Fx.stop n, pre.length + (nC n).length)) ∧
    whiB (at' (pre ++ (nC n ++ post)) pre.length) = false ∧ opn (pre ++ (nC n ++ post)) pre.length = false := by
  have hN := num_nat (n := n) hpre hpost
  obtain ⟨r1, r2, r3, r4⟩ := num_read hN h1 h2 h3 h4
  obtain ⟨d, r, hd⟩ : ∃ d r, nC n = d :: r := by
    cases hh : nC n with
    | nil => exact absurd hh (nC_ne n)
    | cons d r => exact ⟨d, r, rfl⟩
  have hdc := nC_chr n d (by rw [hd]; simp)
  have hc : at' (pre ++ (nC n ++ post)) pre.length = d := by rw [hd]; exact at_app pre d _
  have hg := g_at hc (by omega)
  have hgap := no_gap hc (by omega)
  refine ⟨?_, hgap.1, hgap.2⟩
  unfold nxt
  rw [hg] at r3 ⊢
  rw [if_neg (by omega), if_neg (by omega), if_pos ⟨r3, r4⟩, r1, r2, at_post0]
theorem nxt_number {n : Int} (hpre : ∀ c ∈ pre, 0 ≤ c) (hpost : ∀ c ∈ post, 0 ≤ c) (hs : Stp (at' post 0)) :
    nxt (pre ++ (nC n ++ post)) pre.length = (8, ⟨#[]⟩, Fx.stop n, pre.length + (nC n).length) ∧
    whiB (at' (pre ++ (nC n ++ post)) pre.length) = false ∧ opn (pre ++ (nC n ++ post)) pre.length = false := by
  obtain ⟨w1, w2, w3, w4, w5, w6, w7, w8, w9, w10, _⟩ := hs.wit
  obtain ⟨h1, h2⟩ := nxt_num (n := n) hpre hpost w4 w5 w7 w8
  refine ⟨?_, h2⟩
  rw [h1, begs_off (by rw [at_post0]; exact w3) (fun e => absurd (by rw [at_post0] at e; exact e) w2) (fun e => absurd (by rw [at_post0] at e; exact e) w6), if_neg (by decide), if_neg w9]
theorem nxt_percent {n : Int} (hpre : ∀ c ∈ pre, 0 ≤ c) (hpost : ∀ c ∈ post, 0 ≤ c) :
    nxt (pre ++ (nC n ++ [37] ++ post)) pre.length = (9, ⟨#[]⟩, Fx.stop n, pre.length + (nC n ++ [37]).length) ∧
    whiB (at' (pre ++ (nC n ++ [37] ++ post)) pre.length) = false ∧ opn (pre ++ (nC n ++ [37] ++ post)) pre.length = false := by
  have e : pre ++ (nC n ++ [37] ++ post) = pre ++ (nC n ++ (37 :: post)) := by simp
  have a0 : at' (37 :: post) 0 = 37 := at_app [] 37 post
  obtain ⟨h1, h2⟩ := nxt_num (n := n) (post := 37 :: post) hpre (fun c hc => by rcases List.mem_cons.1 hc with rfl | hc; exact (by omega); exact hpost c hc) (by rw [a0]; omega) (by rw [a0]; omega) (by rw [a0]; omega) (by rw [a0]; omega)
  rw [e]
  refine ⟨?_, h2⟩
  rw [h1, begs_off (by rw [at_post0, a0]; rfl) (fun e => by rw [at_post0, a0] at e; omega) (fun e => by rw [at_post0, a0] at e; omega), if_neg (by decide), a0, if_pos rfl]
  simp; omega
theorem nxt_dim {n : Int} (h : Ok l) (hn : l ≠ []) (hpre : ∀ c ∈ pre, 0 ≤ c) (hpost : ∀ c ∈ post, 0 ≤ c) (hw : witB (at' post 0) = false) (h92 : at' post 0 ≠ 92) :
    nxt (pre ++ (nC n ++ nm true l ++ post)) pre.length = (10, str l, Fx.stop n, pre.length + (nC n ++ nm true l).length) ∧
    whiB (at' (pre ++ (nC n ++ nm true l ++ post)) pre.length) = false ∧ opn (pre ++ (nC n ++ nm true l ++ post)) pre.length = false := by
  have e : pre ++ (nC n ++ nm true l ++ post) = pre ++ (nC n ++ (nm true l ++ post)) := by simp
  have e2 : pre ++ (nC n ++ (nm true l ++ post)) = (pre ++ nC n) ++ (nm true l ++ post) := by simp
  have hX := nm_nat (pre := []) h (fun c hc => by cases hc) hpost true
  rw [List.nil_append] at hX
  have hP : ∀ c ∈ pre ++ nC n, 0 ≤ c := fun c hc => by
    rcases List.mem_append.1 hc with hc | hc
    · exact hpre c hc
    · have := nC_chr n c hc; omega
  obtain ⟨c, hc, q0, q1, q2, q3, q4, q5, q6, q7, q8, q9, q10, q11, q12, hlt⟩ := nm_head (dim := true) (pre := pre ++ nC n) (post := post) h hn (nm_nat h hP hpost true)
  have hx : at' (nm true l ++ post) 0 = c := by
    rw [← at_post0 pre (nC n) (nm true l ++ post), ← hc, e2, List.length_append]
  obtain ⟨h1, h2⟩ := nxt_num (n := n) (post := nm true l ++ post) hpre hX (by rw [hx]; exact q11) (by rw [hx]; exact q10) (by rw [hx]; exact (q12 rfl).1) (by rw [hx]; exact (q12 rfl).2)
  have hb := nm_begs (dim := true) (pre := pre ++ nC n) (post := post) h hn
  have hname := name_nm (dim := true) (pre := pre ++ nC n) (post := post) h (inN_off (by rw [at_post0]; exact hw) (by rw [at_post0]; exact h92))
  rw [← e2, List.length_append] at hb hname
  rw [e]
  refine ⟨?_, h2⟩
  rw [h1, if_pos hb, hname]
  simp; omega
/-- one character that stands for itself -/
theorem nxt_delim {c : Int} (h0 : 0 ≤ c) (hd : Del c) (hpre : ∀ c ∈ pre, 0 ≤ c) (hpost : ∀ c ∈ post, 0 ≤ c) (hs : Stp (at' post 0)) (h92 : c = 92 → at' post 0 = 10 ∨ at' post 0 = -1) :
    nxt (pre ++ ([c] ++ post)) pre.length = (11, str [c], 0, pre.length + 1) ∧
    whiB (at' (pre ++ ([c] ++ post)) pre.length) = false ∧ opn (pre ++ ([c] ++ post)) pre.length = false := by
  have hc : at' (pre ++ ([c] ++ post)) pre.length = c := at_app pre c _
  have hc1 : at' (pre ++ ([c] ++ post)) (pre.length + 1) = at' post 0 := at_post0 pre [c] post
  have hg := g_at hc h0
  obtain ⟨w1, w2, w3, w4, w5, w6, w7, w8, w9, w10, w11⟩ := hs.wit
  have hN : ∀ x ∈ pre ++ ([c] ++ post), 0 ≤ x := fun x hx => by
    rcases List.mem_append.1 hx with hx | hx
    · exact hpre x hx
    · rcases List.mem_cons.1 hx with rfl | hx
      · exact h0
      · exact hpost x hx
  obtain ⟨d0, d1, d2, d3, d4, d5, d6, d7, d8, d9, d10, d11, d12, d13, d14, d15, d16, d17⟩ := hd
  have hb : begs (pre ++ ([c] ++ post)) pre.length = false := by
    refine begs_off (by rw [hc]; exact d0) (fun e => ?_) (fun e => by rw [hc1]; exact ⟨w3, w2, w6⟩)
    rw [hc1]
    rw [hc] at e
    rcases h92 e with h | h
    · rw [h]; omega
    · rw [h]; omega
  have e1 : esc (pre ++ ([c] ++ post)) (pre.length + 1) = false := by
    unfold esc
    apply decide_eq_false
    rw [hc1]
    exact fun h => w2 h.1
  have hb1 : begs (pre ++ ([c] ++ post)) (pre.length + 1) = false := by
    refine begs_off (by rw [hc1]; exact w3) (fun e => absurd (by rw [hc1] at e; exact e) w2) (fun e => absurd (by rw [hc1] at e; exact e) w6)
  have hnl : numB c = true → nlen (pre ++ ([c] ++ post)) pre.length = 0 := by
    have := nlen_none (L := pre ++ ([c] ++ post)) (k := pre.length) hN (by rw [hc1]; exact w4) (by rw [hc1]; exact w5) (by rw [hc]; exact d1)
    rwa [hc] at this
  refine ⟨?_, ?_, ?_⟩
  · rw [nxt_rest hg d7 d8 (fun _ => by rw [hc1]; exact ⟨w1, e1⟩) hnl]
    unfold rest
    rw [hg, if_neg (fun hh => by rw [hb1] at hh; exact absurd hh.2 (by decide)), if_neg (by rw [hb]; decide), if_neg (by omega), if_neg (by omega), if_neg (by omega)]
    have : symK c = 11 := by unfold symK; rw [if_neg (by omega), if_neg (by omega)]
    rw [this]
  · rw [hc]; unfold whiB; apply decide_eq_false; omega
  · unfold opn; rw [hc, hc1]; apply decide_eq_false; omega
/-- brackets, and the three signs -/
theorem nxt_sym {c k : Int} {tx : ByteArray} (h : (k = 12 ∧ (c = 40 ∨ c = 91 ∨ c = 123) ∧ tx = str [c]) ∨ (k = 13 ∧ (c = 41 ∨ c = 93 ∨ c = 125) ∧ tx = str [c]) ∨ (k = 14 ∧ c = 58 ∧ tx = ⟨#[]⟩) ∨ (k = 15 ∧ c = 59 ∧ tx = ⟨#[]⟩) ∨ (k = 16 ∧ c = 44 ∧ tx = ⟨#[]⟩)) :
    nxt (pre ++ ([c] ++ post)) pre.length = (k, tx, 0, pre.length + 1) ∧
    whiB (at' (pre ++ ([c] ++ post)) pre.length) = false ∧ opn (pre ++ ([c] ++ post)) pre.length = false := by
  have hc : at' (pre ++ ([c] ++ post)) pre.length = c := at_app pre c _
  have hg := g_at hc (by omega)
  have hgap := no_gap hc (by omega)
  have hb : begs (pre ++ ([c] ++ post)) pre.length = false := by
    refine begs_off ?_ (fun e => by rw [hc] at e; omega) (fun e => by rw [hc] at e; omega)
    rw [hc]
    unfold begB
    apply decide_eq_false
    omega
  have hnb : numB c = false := by unfold numB; apply decide_eq_false; omega
  refine ⟨?_, hgap.1, hgap.2⟩
  rw [nxt_rest hg (by omega) (by omega) (fun e => by omega) (fun e => by rw [hnb] at e; cases e)]
  unfold rest
  rw [hg, if_neg (by omega), if_neg (by rw [hb]; decide)]
  rcases h with ⟨rfl, h, rfl⟩ | ⟨rfl, h, rfl⟩ | ⟨rfl, rfl, rfl⟩ | ⟨rfl, rfl, rfl⟩ | ⟨rfl, rfl, rfl⟩
  · have : symK c = 12 := by unfold symK; rw [if_pos h]
    rw [if_neg (by omega), if_neg (by omega), if_neg (by omega), this]
  · have : symK c = 13 := by unfold symK; rw [if_neg (by omega), if_pos h]
    rw [if_neg (by omega), if_neg (by omega), if_neg (by omega), this]
  · rfl
  · rfl
  · rfl
end
end Pr
end Go.Proofs.YtgcmjkimiakibaaGreatDoor
