/-
  Plain: names, comments and spaces side by side. No run of the program in this text.
-/
import Derived.Test.YtppgklmliklkkaaDoorGn
import Derived.Test.YtppgklmliklkkaaDoorGh
namespace Go.Proofs.YtppgklmliklkkaaDoor
namespace Ru
/-- a byte that is read as itself -/
def Asc (c : Int) : Prop := 0 < c ∧ c < 128 ∧ c ≠ 12 ∧ c ≠ 13
theorem rd_one {c : Int} (h : Asc c) (x : List Int) : rd (c :: x) = c :: rd x := by
  obtain ⟨h0, h1, h2, h3⟩ := h
  have he := enc_one (c := c) (by omega) (by omega) (c :: x).length (g (c :: x) 1) (g (c :: x) 2) (g (c :: x) 3)
  have hc : chL (c :: x) = c := he.1
  have hw : wdL (c :: x) = 1 := by unfold wdL; rw [show g (c :: x) 0 = c from rfl, he.2]; rfl
  have hs : st (c :: x) = 1 := by unfold st; rw [if_neg (by rw [hc]; omega), hw]
  rw [rd_cons (by simp), hc, hs]
  have hp : plain c = c := by unfold plain; rw [if_neg (by omega), if_neg (by omega)]
  rw [hp]; rfl
theorem rd_asc : ∀ (a : List Int), (∀ c ∈ a, Asc c) → ∀ x, rd (a ++ x) = a ++ rd x
  | [], _, x => rfl
  | c :: a, h, x => by
    rw [List.cons_append, rd_one (h c (by simp)), rd_asc a (fun d hd => h d (by simp [hd]))]; rfl
theorem ch_42 {n a b c d : Int} (_ha : 0 ≤ a) (h : ch n a b c d = 42) : a = 42 := by
  unfold ch at h
  split at h
  · exact h
  · split at h
    · rename_i h1 h2
      have := (val_is (by omega) h2.1 h2.2).1
      omega
    · omega
theorem rd_no42 : ∀ (f : Nat) (l : List Int), l.length ≤ f → By l → 42 ∉ l → 42 ∉ rd l
  | f, [], _, _, _ => by rw [rd_nil]; simp
  | 0, a :: l, hf, _, _ => by simp at hf
  | f + 1, a :: l, hf, hb, hn => by
    have hs := st_le (l := a :: l) (by simp)
    rw [rd_cons (by simp), List.mem_cons]
    rintro (h | h)
    · have hp : chL (a :: l) = 42 := by
        unfold plain at h
        split at h
        · omega
        · split at h
          · omega
          · exact h.symm
      have := ch_42 (hb.at_ 0).1 hp
      exact hn (by rw [show g (a :: l) 0 = a from rfl] at this; rw [this]; simp)
    · refine rd_no42 f _ ?_ (hb.drop _) (fun hm => hn (List.mem_of_mem_drop hm)) h
      rw [List.length_drop]; simp at hf ⊢; omega
theorem rd_before {c : Int} (h : Asc c) (h10 : c ≠ 10) (a x : List Int) : rd (a ++ c :: x) = rd a ++ c :: rd x := by
  rw [rd_parts (c :: x) (by simp) (by rw [show g (c :: x) 0 = c from rfl]; exact h.2.1) (by rw [show g (c :: x) 0 = c from rfl]; exact h10) a.length a (Nat.le_refl _), rd_one h]
/-- small letters are written as themselves -/
theorem wr_asc : ∀ (a : List Int), (∀ c ∈ a, 0 ≤ c ∧ c ≤ 127) → wr a = a
  | [], _ => rfl
  | c :: a, h => by
    have e : wr (c :: a) = Lib.encodeRuneZ c ++ wr a := rfl
    rw [e, wr_asc a (fun d hd => h d (by simp [hd])), Lib.encodeRuneZ_one (h c (by simp)).1 (h c (by simp)).2]; rfl
end Ru
namespace Tk
open Ru
theorem at_app (pre : List Int) (c : Int) (post : List Int) : at' (pre ++ c :: post) pre.length = c := by
  rw [at_in (by simp)]
  unfold g
  rw [List.getD_eq_getElem?_getD, List.getElem?_append_right (Nat.le_refl _)]
  simp
theorem at_end (pre : List Int) : at' pre pre.length = -1 := at_out (by omega)
theorem app_more (pre : List Int) (c : Int) (post : List Int) : pre ++ c :: post = (pre ++ [c]) ++ post := by simp
theorem at_app1 (pre : List Int) (c d : Int) (post : List Int) : at' (pre ++ c :: d :: post) (pre.length + 1) = d := by
  have := at_app (pre ++ [c]) d post
  rw [List.length_append] at this
  rw [app_more pre c]
  exact this
/-- a name's characters, side by side -/
theorem name_app : ∀ (nm pre post : List Int), (∀ c ∈ nm, witB c = true ∧ c ≠ 92) → inN (pre ++ (nm ++ post)) (pre.length + nm.length) = false → name (pre ++ (nm ++ post)) pre.length = (nm, pre.length + nm.length)
  | [], pre, post, _, he => by
    have he' : inN (pre ++ ([] ++ post)) pre.length = false := he
    rw [name_no he']; rfl
  | c :: nm, pre, post, h, he => by
    obtain ⟨hw, h92⟩ := h c (by simp)
    have ha : at' (pre ++ (c :: nm ++ post)) pre.length = c := at_app pre c (nm ++ post)
    have hin : inN (pre ++ (c :: nm ++ post)) pre.length = true := by unfold inN; rw [ha, hw, Bool.or_true]
    have ho : oneN (pre ++ (c :: nm ++ post)) pre.length = (c, pre.length + 1) := by unfold oneN; rw [ha, if_neg h92]
    have e : pre ++ (c :: nm ++ post) = (pre ++ [c]) ++ (nm ++ post) := by simp
    have el : (pre ++ [c]).length = pre.length + 1 := by simp
    have ih := name_app nm (pre ++ [c]) post (fun d hd => h d (by simp [hd])) (by
      rw [← e, el]
      rw [show pre.length + 1 + nm.length = pre.length + (c :: nm).length by simp; omega]
      exact he)
    rw [el, ← e] at ih
    rw [name_yes hin, ho]
    simp only
    rw [ih]
    simp; omega
/-- what no name goes on with -/
theorem inN_stop {pre : List Int} {c : Int} {post : List Int} (hw : witB c = false) (h92 : c ≠ 92) : inN (pre ++ c :: post) pre.length = false := by
  unfold inN esc
  rw [at_app, hw, Bool.or_false]
  apply decide_eq_false
  intro h
  exact h92 h.1
theorem inN_end (pre : List Int) : inN pre pre.length = false := by
  unfold inN esc
  rw [at_end]; rfl
/-- small letters -/
def Low (nm : List Int) : Prop := nm ≠ [] ∧ ∀ c ∈ nm, 97 ≤ c ∧ c ≤ 122
theorem Low.wit {nm : List Int} (h : Low nm) : ∀ c ∈ nm, witB c = true ∧ c ≠ 92 := fun c hc => by
  have := h.2 c hc
  refine ⟨?_, by omega⟩
  unfold witB begB
  simp only [Bool.or_eq_true, decide_eq_true_eq]
  omega
theorem ident_low {pre nm post : List Int} (h : Low nm) (hs : inN (pre ++ (nm ++ post)) (pre.length + nm.length) = false) (h40 : at' (pre ++ (nm ++ post)) (pre.length + nm.length) ≠ 40) :
    nxt (pre ++ (nm ++ post)) pre.length = (2, str nm, 0, pre.length + nm.length) := by
  have hn := name_app nm pre post h.wit hs
  obtain ⟨c, r, rfl⟩ : ∃ c r, nm = c :: r := by
    cases nm with
    | nil => exact absurd rfl h.1
    | cons c r => exact ⟨c, r, rfl⟩
  have hc := h.2 c (by simp)
  have hlt : pre.length < (pre ++ (c :: r ++ post)).length := by simp
  have ha : at' (pre ++ (c :: r ++ post)) pre.length = c := at_app pre c (r ++ post)
  have hg : g (pre ++ (c :: r ++ post)) pre.length = c := by rw [← at_in hlt]; exact ha
  have hb : begs (pre ++ (c :: r ++ post)) pre.length = true := by
    unfold begs may
    rw [ha]
    have : begB c = true := by unfold begB; simp only [decide_eq_true_eq]; omega
    rw [this]; rfl
  have hnum : numB c = false := by unfold numB; apply decide_eq_false; omega
  unfold nxt
  rw [hg, if_neg (by omega), if_neg (by omega), if_neg (by rw [hnum]; simp)]
  unfold rest
  rw [hg, if_neg (by omega), if_pos hb, hn]
  simp only
  rw [if_neg h40]
/-- no gap stands where a name or a sign stands -/
theorem no_gap {l : List Int} {k : Nat} {c : Int} (ha : at' l k = c) (h : c ≠ 9 ∧ c ≠ 10 ∧ c ≠ 32 ∧ c ≠ 47) : whiB (at' l k) = false ∧ opn l k = false := by
  rw [ha]
  constructor
  · unfold whiB; apply decide_eq_false; omega
  · unfold opn; rw [ha]; apply decide_eq_false; omega
theorem cmtE_app : ∀ (rc pre post : List Int), (∀ c ∈ rc, c ≠ 42) → cmtE (pre ++ (rc ++ 42 :: 47 :: post)) pre.length = pre.length + rc.length
  | [], pre, post, _ => by
    rw [cmtE_no]
    · rfl
    · intro h
      apply h.2
      refine ⟨?_, ?_⟩
      · rw [← at_in h.1]; exact at_app pre 42 (47 :: post)
      · exact at_app1 pre 42 47 post
  | c :: rc, pre, post, h => by
    have e : pre ++ (c :: rc ++ 42 :: 47 :: post) = (pre ++ [c]) ++ (rc ++ 42 :: 47 :: post) := by simp
    have el : (pre ++ [c]).length = pre.length + 1 := by simp
    have ih := cmtE_app rc (pre ++ [c]) post (fun d hd => h d (by simp [hd]))
    rw [el, ← e] at ih
    rw [cmtE_yes]
    · rw [ih]; simp; omega
    · refine ⟨by simp, fun hh => ?_⟩
      have : at' (pre ++ (c :: rc ++ 42 :: 47 :: post)) pre.length = c := at_app pre c _
      rw [at_in (by simp)] at this
      exact h c (by simp) (by rw [← this]; exact hh.1)
/-- a comment in a gap -/
theorem sp_cmt {rc pre post : List Int} {b : Bool} (h : ∀ c ∈ rc, c ≠ 42) : sp (pre ++ (47 :: 42 :: rc ++ 42 :: 47 :: post)) pre.length b = sp (pre ++ (47 :: 42 :: rc ++ 42 :: 47 :: post)) (pre.length + (rc.length + 4)) b := by
  have a0 : at' (pre ++ (47 :: 42 :: rc ++ 42 :: 47 :: post)) pre.length = 47 := at_app pre 47 _
  have a1 : at' (pre ++ (47 :: 42 :: rc ++ 42 :: 47 :: post)) (pre.length + 1) = 42 := at_app1 pre 47 42 _
  have hw : whiB (at' (pre ++ (47 :: 42 :: rc ++ 42 :: 47 :: post)) pre.length) = false := by rw [a0]; rfl
  have ho : opn (pre ++ (47 :: 42 :: rc ++ 42 :: 47 :: post)) pre.length = true := by unfold opn; rw [a0, a1]; rfl
  rw [sp_opn hw ho]
  have e : pre ++ (47 :: 42 :: rc ++ 42 :: 47 :: post) = (pre ++ [47, 42]) ++ (rc ++ 42 :: 47 :: post) := by simp
  have hc := cmtE_app rc (pre ++ [47, 42]) post h
  have el : (pre ++ ([47, 42] : List Int)).length = pre.length + 2 := by simp
  rw [← e, el] at hc
  have : cmt (pre ++ (47 :: 42 :: rc ++ 42 :: 47 :: post)) pre.length = pre.length + (rc.length + 4) := by
    unfold cmt
    rw [hc]
    simp
    omega
  rw [this]
end Tk
end Go.Proofs.YtppgklmliklkkaaDoor

/-
  Plain: the tokens that TokenComments asks for. No run of the program in this text.
-/
namespace Go.Proofs.YtppgklmliklkkaaDoor
namespace Tk
open Ru
theorem scan_ident {pre nm post : List Int} (h : Low nm) (hs : inN (pre ++ (nm ++ post)) (pre.length + nm.length) = false) (h40 : at' (pre ++ (nm ++ post)) (pre.length + nm.length) ≠ 40) :
    scan (pre ++ (nm ++ post)) pre.length = (2, str nm, 0) :: scan (pre ++ (nm ++ post)) (pre.length + nm.length) := by
  have hi := ident_low h hs h40
  obtain ⟨c, r, rfl⟩ : ∃ c r, nm = c :: r := by
    cases nm with
    | nil => exact absurd rfl h.1
    | cons c r => exact ⟨c, r, rfl⟩
  have hc := h.2 c (by simp)
  have hg := no_gap (at_app pre c (r ++ post)) (by omega)
  have hlt : pre.length < (pre ++ (c :: r ++ post)).length := by simp
  rw [scan_tok (l := pre ++ (c :: r ++ post)) hlt hg.1 hg.2]
  rw [show nxt (pre ++ (c :: r ++ post)) pre.length = (2, str (c :: r), 0, pre.length + (c :: r).length) from hi]
  rfl
theorem scan_colon (pre post : List Int) : scan (pre ++ 58 :: post) pre.length = (14, ⟨#[]⟩, 0) :: scan (pre ++ 58 :: post) (pre.length + 1) := by
  have ha := at_app pre 58 post
  have hlt : pre.length < (pre ++ 58 :: post).length := by simp
  have hgap := no_gap ha (by omega)
  have hg : g (pre ++ 58 :: post) pre.length = 58 := by rw [← at_in hlt]; exact ha
  have hx : nxt (pre ++ 58 :: post) pre.length = (14, ⟨#[]⟩, 0, pre.length + 1) := by
    unfold nxt
    rw [hg, if_neg (by omega), if_neg (by omega), if_neg (by rw [show numB 58 = false from rfl]; simp)]
    unfold rest
    rw [hg, if_neg (by omega), if_neg (by rw [begs_not hlt (.inr (.inl hg))]; decide), if_pos rfl]
  rw [scan_tok hlt hgap.1 hgap.2, hx]; rfl
theorem stop_58 (pre post : List Int) : inN (pre ++ 58 :: post) pre.length = false := inN_stop rfl (by decide)
/-- a name, and all that is behind it -/
theorem scan_first {nm post : List Int} {c : Int} (h : Low nm) (hw : witB c = false) (h92 : c ≠ 92) (h40 : c ≠ 40) : scan (nm ++ c :: post) 0 = (2, str nm, 0) :: scan (nm ++ c :: post) nm.length := by
  have := scan_ident (pre := []) (post := c :: post) h (by
    rw [List.nil_append, List.length_nil, Nat.zero_add]; exact inN_stop hw h92) (by
    rw [List.nil_append, List.length_nil, Nat.zero_add, at_app]; exact h40)
  simpa using this
/-- the name at the end -/
theorem scan_last' {pre nm : List Int} (h : Low nm) : scan (pre ++ nm) pre.length = [(2, str nm, 0)] := by
  have e : pre.length + nm.length = (pre ++ nm).length := by simp
  have := scan_ident (pre := pre) (post := []) h (by rw [List.append_nil, e]; exact inN_end _) (by rw [List.append_nil, e, at_end]; decide)
  rw [List.append_nil] at this
  rw [this, scan_end (by omega)]
theorem scan_b {nm : List Int} (h : Low nm) : scan (nm ++ 58 :: nm) 0 = [(2, str nm, 0), (14, ⟨#[]⟩, 0), (2, str nm, 0)] := by
  rw [scan_first h rfl (by decide) (by decide), scan_colon]
  have := scan_last' (pre := nm ++ [58]) h
  rw [List.length_append] at this
  rw [app_more nm 58 nm]
  exact congrArg (fun x => (2, str nm, 0) :: (14, ⟨#[]⟩, 0) :: x) this
theorem scan_a {nm rc : List Int} (h : Low nm) (hr : ∀ c ∈ rc, c ≠ 42) : scan (nm ++ (47 :: 42 :: rc ++ 42 :: 47 :: 58 :: nm)) 0 = [(2, str nm, 0), (14, ⟨#[]⟩, 0), (2, str nm, 0)] := by
  rw [show nm ++ (47 :: 42 :: rc ++ 42 :: 47 :: 58 :: nm) = nm ++ 47 :: (42 :: rc ++ 42 :: 47 :: 58 :: nm) from rfl, scan_first h rfl (by decide) (by decide)]
  rw [scan_gap (by simp)]
  have hs := sp_cmt (pre := nm) (post := 58 :: nm) (b := false) hr
  have e : nm ++ (47 :: 42 :: rc ++ 42 :: 47 :: 58 :: nm) = (nm ++ (47 :: 42 :: rc ++ [42, 47])) ++ 58 :: nm := by simp
  have el : (nm ++ (47 :: 42 :: rc ++ [42, 47])).length = nm.length + (rc.length + 4) := by simp
  have hg := no_gap (at_app (nm ++ (47 :: 42 :: rc ++ [42, 47])) 58 nm) (by omega)
  rw [← e, el] at hg
  have hs2 : sp (nm ++ 47 :: (42 :: rc ++ 42 :: 47 :: 58 :: nm)) nm.length false = (nm.length + (rc.length + 4), false) := by
    rw [show nm ++ 47 :: (42 :: rc ++ 42 :: 47 :: 58 :: nm) = nm ++ (47 :: 42 :: rc ++ 42 :: 47 :: 58 :: nm) from rfl, hs]
    exact sp_no hg.1 hg.2
  rw [hs2]
  have hc := scan_colon (nm ++ (47 :: 42 :: rc ++ [42, 47])) nm
  rw [← e, el] at hc
  rw [show nm ++ 47 :: (42 :: rc ++ 42 :: 47 :: 58 :: nm) = nm ++ (47 :: 42 :: rc ++ 42 :: 47 :: 58 :: nm) from rfl]
  simp only
  rw [hc]
  have hl := scan_last' (pre := nm ++ (47 :: 42 :: rc ++ [42, 47]) ++ [58]) h
  rw [List.length_append, el] at hl
  have e2 : (nm ++ (47 :: 42 :: rc ++ [42, 47]) ++ [58]) ++ nm = nm ++ (47 :: 42 :: rc ++ 42 :: 47 :: 58 :: nm) := by simp
  rw [e2] at hl
  exact congrArg (fun x => (2, str nm, 0) :: (14, ⟨#[]⟩, 0) :: x) hl
theorem scan_c {nm rc : List Int} (h : Low nm) (hr : ∀ c ∈ rc, c ≠ 42) : scan (nm ++ 9 :: (47 :: 42 :: rc ++ 42 :: 47 :: 32 :: 10 :: nm)) 0 = [(2, str nm, 0), (1, ⟨#[]⟩, 0), (2, str nm, 0)] := by
  rw [scan_first h rfl (by decide) (by decide)]
  rw [scan_gap (by simp)]
  have e1 : nm ++ 9 :: (47 :: 42 :: rc ++ 42 :: 47 :: 32 :: 10 :: nm) = (nm ++ [9]) ++ (47 :: 42 :: rc ++ 42 :: 47 :: 32 :: 10 :: nm) := by simp
  have l1 : (nm ++ ([9] : List Int)).length = nm.length + 1 := by simp
  have s1 : sp (nm ++ 9 :: (47 :: 42 :: rc ++ 42 :: 47 :: 32 :: 10 :: nm)) nm.length false = sp (nm ++ 9 :: (47 :: 42 :: rc ++ 42 :: 47 :: 32 :: 10 :: nm)) (nm.length + 1) true := sp_white (by rw [at_app]; rfl)
  have s2 := sp_cmt (pre := nm ++ [9]) (post := 32 :: 10 :: nm) (b := true) hr
  rw [← e1, l1] at s2
  have e3 : nm ++ 9 :: (47 :: 42 :: rc ++ 42 :: 47 :: 32 :: 10 :: nm) = (nm ++ 9 :: (47 :: 42 :: rc ++ [42, 47])) ++ 32 :: 10 :: nm := by simp
  have l3 : (nm ++ 9 :: (47 :: 42 :: rc ++ [42, 47])).length = nm.length + 1 + (rc.length + 4) := by simp; omega
  have a3 := at_app (nm ++ 9 :: (47 :: 42 :: rc ++ [42, 47])) 32 (10 :: nm)
  have a4 := at_app1 (nm ++ 9 :: (47 :: 42 :: rc ++ [42, 47])) 32 10 nm
  rw [← e3, l3] at a3 a4
  have e5 : nm ++ 9 :: (47 :: 42 :: rc ++ 42 :: 47 :: 32 :: 10 :: nm) = (nm ++ 9 :: (47 :: 42 :: rc ++ [42, 47, 32, 10])) ++ nm := by simp
  have l5 : (nm ++ 9 :: (47 :: 42 :: rc ++ [42, 47, 32, 10])).length = nm.length + 1 + (rc.length + 4) + 2 := by simp; omega
  have hl := scan_last' (pre := nm ++ 9 :: (47 :: 42 :: rc ++ [42, 47, 32, 10])) h
  rw [← e5, l5] at hl
  have hgap : whiB (at' (nm ++ 9 :: (47 :: 42 :: rc ++ 42 :: 47 :: 32 :: 10 :: nm)) (nm.length + 1 + (rc.length + 4) + 2)) = false ∧ opn (nm ++ 9 :: (47 :: 42 :: rc ++ 42 :: 47 :: 32 :: 10 :: nm)) (nm.length + 1 + (rc.length + 4) + 2) = false := by
    obtain ⟨c, r, hcr⟩ : ∃ c r, nm = c :: r := by
      cases nm with
      | nil => exact absurd rfl h.1
      | cons c r => exact ⟨c, r, rfl⟩
    have hc := h.2 c (by rw [hcr]; simp)
    have a5 := at_app (nm ++ 9 :: (47 :: 42 :: rc ++ [42, 47, 32, 10])) c r
    rw [← hcr, ← e5, l5] at a5
    exact no_gap a5 (by omega)
  have hs : sp (nm ++ 9 :: (47 :: 42 :: rc ++ 42 :: 47 :: 32 :: 10 :: nm)) nm.length false = (nm.length + 1 + (rc.length + 4) + 2, true) := by
    rw [s1, s2, sp_white (by rw [a3]; rfl), sp_white (by rw [a4]; rfl)]
    exact sp_no hgap.1 hgap.2
  rw [hs]
  simp only
  rw [hl]; rfl
/-- the characters of the three sheets -/
theorem low_asc {nm : List Int} (h : Low nm) : ∀ c ∈ nm, Asc c := fun c hc => by have := h.2 c hc; unfold Asc; omega
theorem rd_low {nm : List Int} (h : Low nm) : rd nm = nm := by
  have := rd_asc nm (low_asc h) []
  rwa [List.append_nil, rd_nil, List.append_nil] at this
theorem rd_a {nm cm : List Int} (h : Low nm) : rd (nm ++ (47 :: 42 :: cm ++ 42 :: 47 :: 58 :: nm)) = nm ++ (47 :: 42 :: rd cm ++ 42 :: 47 :: 58 :: nm) := by
  rw [rd_asc nm (low_asc h)]
  rw [show 47 :: 42 :: cm ++ 42 :: 47 :: 58 :: nm = 47 :: 42 :: (cm ++ 42 :: 47 :: 58 :: nm) from rfl, rd_one (by unfold Asc; omega), rd_one (by unfold Asc; omega), rd_before (by unfold Asc; omega) (by decide), rd_one (by unfold Asc; omega), rd_one (by unfold Asc; omega), rd_low h]
  rfl
theorem rd_b {nm : List Int} (h : Low nm) : rd (nm ++ 58 :: nm) = nm ++ 58 :: nm := by
  rw [rd_asc nm (low_asc h), rd_one (by unfold Asc; omega), rd_low h]
theorem rd_c {nm cm : List Int} (h : Low nm) : rd (nm ++ 9 :: (47 :: 42 :: cm ++ 42 :: 47 :: 32 :: 10 :: nm)) = nm ++ 9 :: (47 :: 42 :: rd cm ++ 42 :: 47 :: 32 :: 10 :: nm) := by
  rw [rd_asc nm (low_asc h), rd_one (by unfold Asc; omega)]
  rw [show 47 :: 42 :: cm ++ 42 :: 47 :: 32 :: 10 :: nm = 47 :: 42 :: (cm ++ 42 :: 47 :: 32 :: 10 :: nm) from rfl, rd_one (by unfold Asc; omega), rd_one (by unfold Asc; omega), rd_before (by unfold Asc; omega) (by decide), rd_one (by unfold Asc; omega), rd_one (by unfold Asc; omega), rd_one (by unfold Asc; omega), rd_low h]
  rfl
end Tk
end Go.Proofs.YtppgklmliklkkaaDoor
