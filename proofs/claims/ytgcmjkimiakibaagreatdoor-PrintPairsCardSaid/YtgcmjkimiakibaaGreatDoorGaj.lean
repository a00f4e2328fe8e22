/-
  Plain: tokens side by side, as text: what is printed is scanned as it was. No run of the program in this text.
-/
import Derived.Test.YtgcmjkimiakibaaGreatDoorGai
import Derived.Test.YtgcmjkimiakibaaGreatDoorGag
namespace Go.Proofs.YtgcmjkimiakibaaGreatDoor
namespace Pr
open Ru Tk

/-- no comment is wanted behind these -/
def F1 (a : Int) : Prop := a = 1 ∨ a = 3 ∨ a = 12 ∨ a = 13 ∨ a = 6 ∨ a = 14 ∨ a = 15 ∨ a = 16
/-- .. nor ahead of these -/
def F2 (b : Int) : Prop := b = 1 ∨ b = 13 ∨ b = 6 ∨ b = 14 ∨ b = 15 ∨ b = 16
instance (a : Int) : Decidable (F1 a) := by unfold F1; exact inferInstance
instance (a : Int) : Decidable (F2 a) := by unfold F2; exact inferInstance
def sep : Option Int → Int → List Int
  | none, _ => []
  | some a, b => if F1 a ∨ F2 b then [] else [47, 42, 42, 47]
/-- the text of tokens, one behind the other; a: the kind of the token ahead -/
def prL : Option Int → List PT → List Int
  | _, [] => []
  | a, t :: r => sep a t.1 ++ (tokC t ++ prL (some t.1) r)
def nextK (r : List PT) : Option Int := r.head?.map fun t => t.1
/-- a token may stand there -/
def Stn (t : PT) (nx : Option Int) : Prop := (t.1 = 1 → nx ≠ some 1) ∧ (t.1 = 7 → nx = some 1) ∧ (t.1 = 11 → t.2.1 = [92] → nx = some 1 ∨ nx = none)
def Right : List PT → Prop
  | [] => True
  | t :: r => One t ∧ Stn t (nextK r) ∧ Right r

/-! ### characters of a text -/
/-- characters that are read as themselves -/
def Rd (l : List Int) : Prop := ∀ c ∈ l, Is c ∧ c ≠ 0 ∧ c ≠ 12 ∧ c ≠ 13
theorem Rd.app {a b : List Int} (ha : Rd a) (hb : Rd b) : Rd (a ++ b) := fun c hc => by
  rcases List.mem_append.1 hc with hc | hc
  · exact ha c hc
  · exact hb c hc
theorem Rd.nil : Rd [] := fun c hc => by cases hc
theorem rd_small {c : Int} (h0 : 0 < c) (h1 : c < 128) (h2 : c ≠ 12) (h3 : c ≠ 13) : Is c ∧ c ≠ 0 ∧ c ≠ 12 ∧ c ≠ 13 := by unfold Is; omega
theorem Rd.one {c : Int} (h0 : 0 < c) (h1 : c < 128) (h2 : c ≠ 12) (h3 : c ≠ 13) : Rd [c] := fun d hd => by
  rw [List.mem_singleton] at hd; subst hd; exact rd_small h0 h1 h2 h3
theorem rd_escC {c : Int} (h : 0 ≤ c) : Rd (escC c) := fun x hx => by
  have := escC_asc h x hx
  exact rd_small (by omega) (by omega) (by omega) (by omega)
theorem rd_piece {dim : Bool} {l : List Int} {i : Nat} (h : Ok l) (hi : i < l.length) : Rd (piece dim l i) := by
  obtain ⟨hc, h0⟩ := h.at_ hi
  unfold piece
  split
  · exact rd_escC (Is_lt hc).1
  · rename_i hm
    have hw := (must_no (Bool.eq_false_iff.2 hm)).1
    intro d hd
    rw [List.mem_singleton] at hd
    subst hd
    refine ⟨hc, h0, ?_, ?_⟩
    · intro e; rw [e] at hw; cases hw
    · intro e; rw [e] at hw; cases hw
theorem rd_nm {l : List Int} (dim : Bool) (h : Ok l) : Rd (nm dim l) := fun c hc => by
  unfold nm nmT at hc
  obtain ⟨i, hi, hc⟩ := List.mem_flatMap.1 hc
  exact rd_piece h (List.mem_range.1 hi) c hc
theorem rd_qC {c : Int} (hc : Is c) (h0 : c ≠ 0) : Rd (qC c) := by
  unfold qC
  split
  · exact rd_escC (Is_lt hc).1
  · rename_i hs
    unfold spec at hs
    intro d hd
    rw [List.mem_singleton] at hd
    subst hd
    exact ⟨hc, h0, by omega, by omega⟩
theorem rd_enq {l : List Int} (h : Ok l) : Rd (enq l) := fun c hc => by
  unfold enq at hc
  obtain ⟨d, hd, hc⟩ := List.mem_flatMap.1 hc
  exact rd_qC (h d hd).1 (h d hd).2 c hc
theorem rd_nC (n : Int) : Rd (nC n) := fun c hc => by
  have := nC_chr n c hc
  exact rd_small (by omega) (by omega) (by omega) (by omega)
theorem rd_tokC {t : PT} (h : One t) : Rd (tokC t) := by
  obtain ⟨k, l, n⟩ := t
  obtain ⟨ho, hk⟩ := h
  simp only at ho hk
  unfold tokC
  simp only
  unfold Kd at hk
  rcases hk with ⟨rfl, _⟩ | ⟨rfl | rfl | rfl | rfl, _⟩ | ⟨rfl | rfl, _⟩ | ⟨rfl | rfl, _⟩ | ⟨rfl, _⟩ | ⟨rfl, ⟨c, rfl, hd⟩, _⟩ | ⟨rfl, hl, _⟩ | ⟨rfl, hl, _⟩ | ⟨rfl | rfl | rfl, _⟩
  · exact Rd.one (by omega) (by omega) (by omega) (by omega)
  · exact rd_nm false ho
  · exact (rd_nm false ho).app (Rd.one (by omega) (by omega) (by omega) (by omega))
  · exact (Rd.one (c := 64) (by omega) (by omega) (by omega) (by omega)).app (rd_nm false ho)
  · exact (Rd.one (c := 35) (by omega) (by omega) (by omega) (by omega)).app (rd_nm false ho)
  · exact (Rd.one (c := 34) (by omega) (by omega) (by omega) (by omega)).app ((rd_enq ho).app (Rd.one (by omega) (by omega) (by omega) (by omega)))
  · exact (Rd.one (c := 34) (by omega) (by omega) (by omega) (by omega)).app (rd_enq ho)
  · exact rd_nC n
  · exact (rd_nC n).app (Rd.one (by omega) (by omega) (by omega) (by omega))
  · exact (rd_nC n).app (rd_nm true ho)
  · unfold Del at hd
    intro d hm
    have e : ([c] : List Int) = [c] := rfl
    have hm' : d ∈ [c] := hm
    rw [List.mem_singleton] at hm'
    subst hm'
    have := ho d (by simp)
    exact ⟨this.1, this.2, by omega, by omega⟩
  · rcases hl with rfl | rfl | rfl <;> exact Rd.one (by omega) (by omega) (by omega) (by omega)
  · rcases hl with rfl | rfl | rfl <;> exact Rd.one (by omega) (by omega) (by omega) (by omega)
  · exact Rd.one (by omega) (by omega) (by omega) (by omega)
  · exact Rd.one (by omega) (by omega) (by omega) (by omega)
  · exact Rd.one (by omega) (by omega) (by omega) (by omega)
theorem rd_sep (a : Option Int) (b : Int) : Rd (sep a b) := by
  cases a with
  | none => exact Rd.nil
  | some a =>
    rw [show sep (some a) b = if F1 a ∨ F2 b then [] else [47, 42, 42, 47] from rfl]
    split
    · exact Rd.nil
    · exact (Rd.one (c := 47) (by omega) (by omega) (by omega) (by omega)).app ((Rd.one (c := 42) (by omega) (by omega) (by omega) (by omega)).app ((Rd.one (c := 42) (by omega) (by omega) (by omega) (by omega)).app (Rd.one (c := 47) (by omega) (by omega) (by omega) (by omega))))
theorem rd_prL : ∀ (ts : List PT) (a : Option Int), (∀ t ∈ ts, One t) → Rd (prL a ts)
  | [], _, _ => Rd.nil
  | t :: r, a, h => (rd_sep a t.1).app ((rd_tokC (h t (by simp))).app (rd_prL r (some t.1) (fun u hu => h u (by simp [hu]))))
theorem Right.all : ∀ {ts : List PT}, Right ts → ∀ t ∈ ts, One t
  | [], _ => fun t ht => by cases ht
  | t :: r, h => fun u hu => by
    rcases List.mem_cons.1 hu with rfl | hu
    · exact h.1
    · exact Right.all h.2.2 u hu
theorem Rd.nat {l : List Int} (h : Rd l) : ∀ c ∈ l, 0 ≤ c := fun c hc => (Is_lt (h c hc).1).1

/-! ### what stands behind a token -/
theorem head_app {a b : List Int} {c : Int} (h : at' a 0 = c) (h0 : c ≠ -1) : at' (a ++ b) 0 = c := by
  have hl : 0 < a.length := at_lt (by rw [h]; exact h0)
  rw [at_in hl] at h
  rw [at_in (by simp; omega), g_left hl]
  exact h
theorem Kd.at1 {l : List Int} {n : Int} (h : Kd 1 l n) : l = [] ∧ n = 0 := by simpa [Kd] using h
theorem Kd.at7 {l : List Int} {n : Int} (h : Kd 7 l n) : n = 0 := by simpa [Kd] using h
theorem Kd.at13 {l : List Int} {n : Int} (h : Kd 13 l n) : (l = [41] ∨ l = [93] ∨ l = [125]) ∧ n = 0 := by simpa [Kd] using h
theorem head_is {t : PT} {c : Int} (h : at' (tokC t) 0 = c) (hc : Stp c) (h1 : c ≠ -1) (h2 : t.1 = 1 → c = 10) : Stp (at' (tokC t) 0) ∧ (t.1 = 1 → at' (tokC t) 0 = 10) ∧ at' (tokC t) 0 ≠ -1 := by
  rw [h]; exact ⟨hc, h2, h1⟩
theorem head_F2 {t : PT} (h : One t) (h2 : F2 t.1) : Stp (at' (tokC t) 0) ∧ (t.1 = 1 → at' (tokC t) 0 = 10) ∧ at' (tokC t) 0 ≠ -1 := by
  obtain ⟨k, l, n⟩ := t
  obtain ⟨ho, hk⟩ := h
  simp only at ho hk h2
  unfold F2 at h2
  rcases h2 with rfl | rfl | rfl | rfl | rfl | rfl
  · exact head_is (c := 10) rfl (by unfold Stp; decide) (by decide) (fun _ => rfl)
  · rcases hk.at13.1 with rfl | rfl | rfl
    · exact head_is (c := 41) rfl (by unfold Stp; decide) (by decide) (fun e => absurd e (show ¬ ((13 : Int) = 1) by decide))
    · exact head_is (c := 93) rfl (by unfold Stp; decide) (by decide) (fun e => absurd e (show ¬ ((13 : Int) = 1) by decide))
    · exact head_is (c := 125) rfl (by unfold Stp; decide) (by decide) (fun e => absurd e (show ¬ ((13 : Int) = 1) by decide))
  · exact head_is (c := 34) (at_app [] 34 _) (by unfold Stp; decide) (by decide) (fun e => absurd e (show ¬ ((6 : Int) = 1) by decide))
  · exact head_is (c := 58) rfl (by unfold Stp; decide) (by decide) (fun e => absurd e (show ¬ ((14 : Int) = 1) by decide))
  · exact head_is (c := 59) rfl (by unfold Stp; decide) (by decide) (fun e => absurd e (show ¬ ((15 : Int) = 1) by decide))
  · exact head_is (c := 44) rfl (by unfold Stp; decide) (by decide) (fun e => absurd e (show ¬ ((16 : Int) = 1) by decide))
theorem head_prL {a : Int} {r : List PT} (ha : ¬ F1 a) (hr : ∀ t ∈ r, One t) :
    Stp (at' (prL (some a) r) 0) ∧ (nextK r = some 1 → at' (prL (some a) r) 0 = 10) ∧ (nextK r = none → at' (prL (some a) r) 0 = -1) := by
  cases r with
  | nil => exact ⟨.inl rfl, (fun h => by cases h), fun _ => rfl⟩
  | cons u r =>
    have hu := hr u (by simp)
    rw [show prL (some a) (u :: r) = (if F1 a ∨ F2 u.1 then [] else [47, 42, 42, 47]) ++ (tokC u ++ prL (some u.1) r) from rfl]
    by_cases h2 : F2 u.1
    · obtain ⟨h3, h4, h5⟩ := head_F2 hu h2
      rw [if_pos (.inr h2), List.nil_append]
      rw [head_app rfl h5]
      refine ⟨h3, fun h => ?_, (fun h => by cases h)⟩
      have h : some u.1 = some 1 := h
      injection h with h
      exact h4 h
    · rw [if_neg (by rintro (h | h); exact ha h; exact h2 h)]
      refine ⟨.inr (.inl rfl), fun h => ?_, (fun h => by cases h)⟩
      have h : some u.1 = some 1 := h
      injection h with h
      exact absurd (.inl h) h2

/-! ### one token -/
theorem tok_nxt {t : PT} {r : List PT} {pre : List Int} (h : One t) (h1 : t.1 ≠ 1) (hs : Stn t (nextK r)) (hr : ∀ u ∈ r, One u) (hpre : ∀ c ∈ pre, 0 ≤ c) :
    nxt (pre ++ (tokC t ++ prL (some t.1) r)) pre.length = (t.1, str t.2.1, t.2.2, pre.length + (tokC t).length) ∧
    whiB (at' (pre ++ (tokC t ++ prL (some t.1) r)) pre.length) = false ∧ opn (pre ++ (tokC t ++ prL (some t.1) r)) pre.length = false := by
  have hpost := (rd_prL r (some t.1) hr).nat
  have hh := fun (ha : ¬ F1 t.1) => head_prL ha hr
  obtain ⟨k, l, n⟩ := t
  obtain ⟨ho, hk⟩ := h
  obtain ⟨_, hs7, hs11⟩ := hs
  simp only at ho hk h1 hs7 hs11 hpost hh ⊢
  generalize prL (some k) r = post at *
  generalize nextK r = nx at *
  unfold Kd at hk
  unfold tokC
  simp only
  rcases hk with ⟨rfl, _⟩ | ⟨rfl | rfl | rfl | rfl, hl, rfl⟩ | ⟨rfl | rfl, rfl⟩ | ⟨rfl | rfl, rfl, hn⟩ | ⟨rfl, hl, hn⟩ | ⟨rfl, ⟨c, rfl, hd⟩, rfl⟩ | ⟨rfl, hl, rfl⟩ | ⟨rfl, hl, rfl⟩ | ⟨rfl | rfl | rfl, rfl, rfl⟩
  · exact absurd rfl h1
  · obtain ⟨w1, w2, _, _, _, _, _, _, _, w10, _⟩ := (hh (by decide)).1.wit
    obtain ⟨e1, e2⟩ := nxt_name (pre := pre) (post := post) ho hl hpre hpost w1 w2
    rw [if_neg w10] at e1
    exact ⟨e1, e2⟩
  · have e : pre ++ (nm false l ++ [40] ++ post) = pre ++ (nm false l ++ (40 :: post)) := by simp
    have a0 : at' (40 :: post) 0 = 40 := at_app [] 40 post
    obtain ⟨e1, e2⟩ := nxt_name (pre := pre) (post := 40 :: post) ho hl hpre (fun c hc => by rcases List.mem_cons.1 hc with rfl | hc; exact (by omega); exact hpost c hc) (by rw [a0]; rfl) (by rw [a0]; omega)
    rw [a0, if_pos rfl] at e1
    show nxt (pre ++ (nm false l ++ [40] ++ post)) pre.length = (3, str l, 0, pre.length + (nm false l ++ [40]).length) ∧ whiB (at' (pre ++ (nm false l ++ [40] ++ post)) pre.length) = false ∧ opn (pre ++ (nm false l ++ [40] ++ post)) pre.length = false
    rw [e]
    refine ⟨?_, e2⟩
    rw [e1]
    simp; omega
  · obtain ⟨w1, w2, _⟩ := (hh (by decide)).1.wit
    exact nxt_at (pre := pre) (post := post) ho hl w1 w2
  · obtain ⟨w1, w2, _⟩ := (hh (by decide)).1.wit
    exact nxt_hash (pre := pre) (post := post) ho hl w1 w2
  · exact nxt_string (pre := pre) (post := post) ho
  · exact nxt_bad (pre := pre) (post := post) ho ((hh (by decide)).2.1 (hs7 rfl))
  · have := nxt_number (n := n) (pre := pre) (post := post) hpre hpost (hh (by decide)).1
    rw [← hn] at this
    exact this
  · have := nxt_percent (n := n) (pre := pre) (post := post) hpre hpost
    rw [← hn] at this
    exact this
  · obtain ⟨w1, w2, _⟩ := (hh (by decide)).1.wit
    have := nxt_dim (n := n) (pre := pre) (post := post) ho hl hpre hpost w1 w2
    rw [← hn] at this
    exact this
  · have h0 := ok_nat ho c (by simp)
    refine nxt_delim (pre := pre) (post := post) h0 hd hpre hpost (hh (by decide)).1 (fun e => ?_)
    subst e
    rcases hs11 rfl rfl with h | h
    · exact .inl ((hh (by decide)).2.1 h)
    · exact .inr ((hh (by decide)).2.2 h)
  · rcases hl with rfl | rfl | rfl
    · exact nxt_sym (pre := pre) (post := post) (.inl ⟨rfl, .inl rfl, rfl⟩)
    · exact nxt_sym (pre := pre) (post := post) (.inl ⟨rfl, .inr (.inl rfl), rfl⟩)
    · exact nxt_sym (pre := pre) (post := post) (.inl ⟨rfl, .inr (.inr rfl), rfl⟩)
  · rcases hl with rfl | rfl | rfl
    · exact nxt_sym (pre := pre) (post := post) (.inr (.inl ⟨rfl, .inl rfl, rfl⟩))
    · exact nxt_sym (pre := pre) (post := post) (.inr (.inl ⟨rfl, .inr (.inl rfl), rfl⟩))
    · exact nxt_sym (pre := pre) (post := post) (.inr (.inl ⟨rfl, .inr (.inr rfl), rfl⟩))
  · exact nxt_sym (pre := pre) (post := post) (.inr (.inr (.inl ⟨rfl, rfl, rfl⟩)))
  · exact nxt_sym (pre := pre) (post := post) (.inr (.inr (.inr (.inl ⟨rfl, rfl, rfl⟩))))
  · exact nxt_sym (pre := pre) (post := post) (.inr (.inr (.inr (.inr ⟨rfl, rfl, rfl⟩))))
theorem tokC_ne {t : PT} (h : One t) : tokC t ≠ [] := by
  obtain ⟨k, l, n⟩ := t
  obtain ⟨ho, hk⟩ := h
  simp only at ho hk
  unfold tokC
  simp only
  have hnm : ∀ dim, l ≠ [] → nm dim l ≠ [] := fun dim hl => by
    have hi : 0 < l.length := List.length_pos_iff.2 hl
    rw [nm_R, nmR_next hi]
    unfold piece escC
    split <;> simp
  unfold Kd at hk
  rcases hk with ⟨rfl, _⟩ | ⟨rfl | rfl | rfl | rfl, hl, rfl⟩ | ⟨rfl | rfl, rfl⟩ | ⟨rfl | rfl, rfl, hn⟩ | ⟨rfl, hl, hn⟩ | ⟨rfl, ⟨c, rfl, hd⟩, rfl⟩ | ⟨rfl, hl, rfl⟩ | ⟨rfl, hl, rfl⟩ | ⟨rfl | rfl | rfl, rfl, rfl⟩
  · exact List.cons_ne_nil _ _
  · exact hnm false hl
  · exact fun e => by have := congrArg List.length e; simp at this
  · exact fun e => by have := congrArg List.length e; simp at this
  · exact fun e => by have := congrArg List.length e; simp at this
  · exact fun e => by have := congrArg List.length e; simp at this
  · exact fun e => by have := congrArg List.length e; simp at this
  · exact nC_ne n
  · exact fun e => by have := congrArg List.length e; simp at this
  · exact fun e => nC_ne n (List.append_eq_nil_iff.1 e).1
  · exact fun e => by have := congrArg List.length e; simp at this
  · rcases hl with rfl | rfl | rfl <;> exact List.cons_ne_nil _ _
  · rcases hl with rfl | rfl | rfl <;> exact List.cons_ne_nil _ _
  · exact List.cons_ne_nil _ _
  · exact List.cons_ne_nil _ _
  · exact List.cons_ne_nil _ _

/-! ### all of them -/
theorem gap_none {L : List Int} {k : Nat} (h : at' L k = -1) : whiB (at' L k) = false ∧ opn L k = false := by
  rw [h]
  refine ⟨rfl, ?_⟩
  unfold opn
  rw [h]; rfl
/-- what is printed is scanned as it was -/
theorem scan_pr : ∀ (ts : List PT) (a : Option Int) (pre : List Int), Right ts → (∀ c ∈ pre, 0 ≤ c) → scan (pre ++ prL a ts) pre.length = ts.map toTok
  | [], a, pre, _, _ => by
    rw [show prL a [] = [] from by unfold prL; rfl, List.append_nil, scan_end (by omega)]; rfl
  | t :: r, a, pre, h, hpre => by
    obtain ⟨h1, h2, h3⟩ := h
    have hall := Right.all h3
    -- at the token itself
    have main : ∀ pre : List Int, (∀ c ∈ pre, 0 ≤ c) → scan (pre ++ (tokC t ++ prL (some t.1) r)) pre.length = toTok t :: r.map toTok := fun pre hpre => by
      have hlen : 0 < (tokC t).length := List.length_pos_iff.2 (tokC_ne h1)
      have hlt : pre.length < (pre ++ (tokC t ++ prL (some t.1) r)).length := by simp; omega
      have hP : ∀ c ∈ pre ++ tokC t, 0 ≤ c := fun c hc => by
        rcases List.mem_append.1 hc with hc | hc
        · exact hpre c hc
        · exact (rd_tokC h1).nat c hc
      have ih := scan_pr r (some t.1) (pre ++ tokC t) h3 hP
      rw [List.append_assoc, List.length_append] at ih
      by_cases hk : t.1 = 1
      · obtain ⟨k, l, n⟩ := t
        simp only at hk
        subst hk
        obtain ⟨rfl, rfl⟩ := Kd.at1 h1.2
        have et : tokC (1, [], 0) = [10] := rfl
        rw [et] at ih hlt ⊢
        have hw : whiB (at' (pre ++ ([10] ++ prL (some 1) r)) pre.length) = true := by
          rw [show at' (pre ++ ([10] ++ prL (some 1) r)) pre.length = 10 from at_app pre 10 _]; rfl
        have hng : whiB (at' (pre ++ ([10] ++ prL (some 1) r)) (pre.length + 1)) = false ∧ opn (pre ++ ([10] ++ prL (some 1) r)) (pre.length + 1) = false := by
          cases r with
          | nil =>
            apply gap_none
            rw [show prL (some 1) [] = [] from by unfold prL; rfl]
            apply at_out
            simp
          | cons u r =>
            have hu1 : u.1 ≠ 1 := fun e => h2.1 rfl (by show some u.1 = some 1; rw [e])
            have e : prL (some 1) (u :: r) = tokC u ++ prL (some u.1) r := by
              rw [show prL (some 1) (u :: r) = (if F1 1 ∨ F2 u.1 then [] else [47, 42, 42, 47]) ++ (tokC u ++ prL (some u.1) r) from rfl, if_pos (.inl (.inl rfl)), List.nil_append]
            have e2 : pre ++ ([10] ++ (tokC u ++ prL (some u.1) r)) = (pre ++ [10]) ++ (tokC u ++ prL (some u.1) r) := by simp
            have := (tok_nxt (pre := pre ++ [10]) (t := u) (r := r) h3.1 hu1 h3.2.1 (Right.all h3.2.2) (fun c hc => by
              rcases List.mem_append.1 hc with hc | hc
              · exact hpre c hc
              · rw [List.mem_singleton] at hc; omega)).2
            rw [← e2, List.length_append] at this
            rw [e]
            exact this
        rw [scan_gap hlt, sp_white hw, sp_no hng.1 hng.2]
        exact congrArg _ ih
      · obtain ⟨e1, e2, e3⟩ := tok_nxt (pre := pre) h1 hk h2 hall hpre
        rw [scan_tok hlt e2 e3, e1]
        exact congrArg _ ih
    have ep : prL a (t :: r) = sep a t.1 ++ (tokC t ++ prL (some t.1) r) := rfl
    rw [ep]
    by_cases hsep : sep a t.1 = []
    · rw [hsep, List.nil_append]
      exact main pre hpre
    · have hs4 : sep a t.1 = [47, 42, 42, 47] ∧ t.1 ≠ 1 := by
        cases a with
        | none => exact absurd rfl hsep
        | some a =>
          rw [show sep (some a) t.1 = if F1 a ∨ F2 t.1 then [] else [47, 42, 42, 47] from rfl] at hsep ⊢
          by_cases hc : F1 a ∨ F2 t.1
          · rw [if_pos hc] at hsep; exact absurd rfl hsep
          · rw [if_neg hc]
            exact ⟨rfl, fun e => hc (.inr (.inl e))⟩
      obtain ⟨hs4, hk⟩ := hs4
      rw [hs4]
      have hP : ∀ c ∈ pre ++ [47, 42, 42, 47], 0 ≤ c := fun c hc => by
        rcases List.mem_append.1 hc with hc | hc
        · exact hpre c hc
        · simp only [List.mem_cons, List.not_mem_nil, or_false] at hc; omega
      obtain ⟨_, e2, e3⟩ := tok_nxt (pre := pre ++ [47, 42, 42, 47]) h1 hk h2 hall hP
      have hm := main (pre ++ [47, 42, 42, 47]) hP
      have el : (pre ++ ([47, 42, 42, 47] : List Int)).length = pre.length + 4 := by simp
      rw [List.append_assoc, el] at e2 e3 hm
      have hc := sp_cmt (rc := []) (pre := pre) (post := tokC t ++ prL (some t.1) r) (b := false) (fun c hc => by cases hc)
      have e4 : pre ++ (47 :: 42 :: [] ++ 42 :: 47 :: (tokC t ++ prL (some t.1) r)) = pre ++ ([47, 42, 42, 47] ++ (tokC t ++ prL (some t.1) r)) := rfl
      rw [e4] at hc
      rw [scan_gap (by simp), hc]
      rw [show pre.length + (([] : List Int).length + 4) = pre.length + 4 by simp, sp_no e2 e3]
      exact hm
/-- a sheet that was printed -/
theorem scan_print {ts : List PT} (h : Right ts) : scan (prL none ts) 0 = ts.map toTok := by
  have := scan_pr ts none [] h (fun c hc => by cases hc)
  rwa [List.nil_append] at this
theorem read_print {ts : List PT} (h : Right ts) : rd (wr (prL none ts)) = prL none ts := rd_enc _ (rd_prL ts none (Right.all h))
/-- a token alone; a Bad is a String -/
theorem scan_one {t : PT} (h : One t) : scan (tokC t) 0 = [(if t.1 = 7 then 6 else t.1, str t.2.1, t.2.2)] := by
  by_cases h7 : t.1 = 7
  · obtain ⟨k, l, n⟩ := t
    simp only at h7
    subst h7
    have hn : n = 0 := Kd.at7 h.2
    subst hn
    obtain ⟨e1, e2, e3⟩ := nxt_open (pre := []) h.1
    have e : ([] : List Int) ++ (34 :: enq l ++ []) = tokC (7, l, 0) := by
      rw [List.nil_append, List.append_nil]; rfl
    simp only at e1 e2 e3
    rw [e] at e1 e2 e3
    exact scan_whole (List.length_pos_iff.2 (tokC_ne h)) e2 e3 e1 (Nat.le_refl _)
  · have hR : Right [t] := ⟨h, ⟨(fun _ e => by cases e), fun e => absurd e h7, fun _ _ => .inr rfl⟩, trivial⟩
    have := scan_print hR
    have e : prL none [t] = tokC t := by
      rw [show prL none [t] = [] ++ (tokC t ++ []) from rfl]
      simp
    rw [e] at this
    rw [this, if_neg h7]
    rfl
/-- unlike tokens are printed as unlike texts -/
theorem print_inj {ts us : List PT} (ht : Right ts) (hu : Right us) (h : wr (prL none ts) = wr (prL none us)) : ts.map toTok = us.map toTok := by
  rw [← scan_print ht, ← scan_print hu, ← read_print ht, ← read_print hu, h]
end Pr
end Go.Proofs.YtgcmjkimiakibaaGreatDoor

/-
  The walks of print's escape, leads; words for the tables.
-/
namespace Go.Proofs.YtgcmjkimiakibaaGreatDoor
open Go.RowKit

/-- the library's tables that printing reads, below block B -/
structure PTab (B : Nat) (w : World) : Prop where
  u : UTab B w
  t : Tab B w
  z : TabAt 7 Lib.deBruijn64tab w
  zl : 7 < B
theorem PTab.below {B : Nat} {w w1 : World} (h : PTab B w) (hb : Below B w w1) : PTab B w1 :=
  ⟨h.u.below hb, Lib.TabBelow.on h.t hb, fun j hj => (hb.cell (p := ⟨_, _, none⟩) h.zl).trans (h.z j hj), h.zl⟩
theorem PTab.more {B C : Nat} {w : World} (h : PTab B w) (hB : B ≤ C) : PTab C w :=
  ⟨⟨h.u.1, by have := h.u.2; omega⟩, fun w' hw => h.t w' (hw.mono hB), h.z, by have := h.zl; omega⟩
theorem PTab.next {w w1 : World} (h : PTab w.heap.size w) (hb : Below w.heap.size w w1) : PTab w1.heap.size w1 := (h.below hb).more hb.size
theorem Bu.below {w w1 : World} {b : Nat} {l : List Int} (h : Bu w b l) (hb : Below w.heap.size w w1) : Bu w1 b l := by
  have hlt := h.lt
  have key : ∀ p, Lib.BuilderAtF 52 5 b b p (nums .u8 l) w → Lib.BuilderAtF 52 5 b b p (nums .u8 l) w1 := by
    rintro p ⟨h0, v, hbk, hown, hne⟩
    refine ⟨h0, v, (hb.block b hlt).trans hbk, hown.kept (row := none) ⟨hb.os, hb.tape, hb.output, hb.size, fun k hk _ => hb.block k hk⟩ ?_, hne⟩
    cases v.ownBlock with
    | none => exact .inl rfl
    | some x => exact .inr (by simp)
  rcases h with h | h
  · exact .inl (key _ h)
  · exact .inr (key _ h)
theorem Bw.of_below {w w1 : World} {b : Nat} (hb : Below w.heap.size w w1) (hs : b ≤ w.heap.size) : Bw b w w1 := by
  refine ⟨hb.mono hs, fun k o hk _ _ => ?_⟩
  have hlt : k < w.heap.size := by
    by_cases c : k < w.heap.size
    · exact c
    · rw [Array.getElem?_eq_none (by omega)] at hk; cases hk
  exact (hb.block k hlt).trans hk
theorem hexC_by (c : Int) (h : 0 ≤ c) : Ru.By (Pr.hexC c) := fun x hx => by
  have := Pr.hexF_chr 6 c h x hx
  omega
theorem hexC_size (c : Int) : (strOfNums (Pr.hexC c)).size ≤ 6 := by rw [strOfNums_size]; exact Pr.hexF_len 6 c
theorem escC_wr {c : Int} (h : 0 ≤ c) : Ru.wr (Pr.escC c) = Pr.escC c := Pr.wr_asc' fun x hx => by
  have := Pr.escC_asc h x hx
  omega
theorem escC_len (c : Int) : (Pr.escC c).length ≤ 8 := by
  have := Pr.hexF_len 6 c
  unfold Pr.escC Pr.hexC
  simp
  omega
theorem bs_one (c : UInt8) : Ru.bs ⟨#[c]⟩ = [(c.toNat : Int)] := rfl

set_option maxHeartbeats 1000000 in
set_option maxRecDepth 100000 in
theorem pescape_any (b : Nat) (l : List Int) (c : Int) (h0 : 0 ≤ c) (h1 : c ≤ 1114111) (w : World) (h : Bu w b l) (hm : l.length ≤ 1000000) (hT : PTab b w) :
    Calls Tryz.prog 79 #[.pointer (some ⟨b, 0, none⟩), .int .i32 c] w fun e w' => e = .returned (.tuple #[]) ∧ Used w' b (l ++ Pr.escC c) ∧ Bw b w w' := by
  have hw := h.lt
  have HT := Lib.hid hT
  have C1 := Lib.hid (writeString_any b l ⟨#[92]⟩ w h (by omega) (by decide))
  have hl := Pr.hexF_len 6 c
  have hsz := hexC_size c
  clear h hT
  obtain ⟨t, ht⟩ : ∃ t, t = strOfNums (Pr.hexC c) := ⟨_, rfl⟩
  have HB : Hid (Ru.bs t = Pr.hexC c) := Lib.hid (by rw [ht]; exact Ru.bs_str (hexC_by c h0))
  rw [← ht] at hsz
  have HF := Lib.hid ht
  clear ht
  go_enter Tryz.func79, Tryz.ntmps79
  go_wp2_with (first | (go_at_call 22; ((with_reducible refine (C1.out).mono ?_); rintro e w1 ⟨rfl, U1, b1⟩; have C2 := Lib.hid (format_16 c h0 h1 w1 (HT.out.below b1.1).z (Nat.lt_trans HT.out.zl U1.bu.lt)); clear C1)) | (go_at_call 100; ((with_reducible refine (C2.out).mono ?_); rintro e w2 ⟨rfl, b2⟩; rw [← HF.out]; have C3 := Lib.hid (writeString_any b _ t w2 (U1.bu.below b2) (by rw [bs_one]; simp; omega) (by omega)); clear C2)) | (go_at_call 22; ((with_reducible refine (C3.out).mono ?_); rintro e w3 ⟨rfl, U3, b3⟩; have C4 := Lib.hid (writeByte_any b _ 32 w3 U3.bu (by rw [HB.out, bs_one]; unfold Pr.hexC; simp; omega)); clear C3)) | (go_at_call 101; ((with_reducible refine (C4.out).mono ?_); rintro e w4 ⟨rfl, U4, b4⟩)))
  go_end0
  refine ⟨rfl, ?_, ?_⟩
  · rw [HB.out] at U4
    have e : l ++ Ru.bs ⟨#[92]⟩ ++ Pr.hexC c ++ [32] = l ++ Pr.escC c := by rw [bs_one]; unfold Pr.escC; simp
    rw [e] at U4
    exact U4
  · exact b1.trans ((Bw.of_below b2 (Nat.le_of_lt U1.bu.lt)).trans (b3.trans b4))
end Go.Proofs.YtgcmjkimiakibaaGreatDoor
