/-
  Plain: the tokens that TokenNames asks for. No run of the program in this text.
-/
import Derived.Test.YtppgklmliklkkaaDoorGk0
namespace Go.Proofs.YtppgklmliklkkaaDoor
namespace Tk
open Ru
/-- a letter, a digit, a - or a _ -/
def NmC (c : Int) : Prop := (97 ≤ c ∧ c ≤ 122) ∨ (65 ≤ c ∧ c ≤ 90) ∨ (48 ≤ c ∧ c ≤ 57) ∨ c = 45 ∨ c = 95
def LtC (c : Int) : Prop := (97 ≤ c ∧ c ≤ 122) ∨ (65 ≤ c ∧ c ≤ 90)
/-- a name, its first character a letter -/
def Wd (nm : List Int) : Prop := (∃ c r, nm = c :: r ∧ LtC c) ∧ ∀ c ∈ nm, NmC c
theorem Wd.wit {nm : List Int} (h : Wd nm) : ∀ c ∈ nm, witB c = true ∧ c ≠ 92 := fun c hc => by
  have := h.2 c hc
  unfold NmC at this
  refine ⟨?_, by omega⟩
  unfold witB begB
  simp only [Bool.or_eq_true, decide_eq_true_eq]
  omega
theorem Wd.asc {nm : List Int} (h : Wd nm) : ∀ c ∈ nm, Asc c := fun c hc => by
  have := h.2 c hc
  unfold NmC at this
  unfold Asc; omega
theorem begs_let {l : List Int} {k : Nat} {c : Int} (ha : at' l k = c) (h : LtC c) : begs l k = true := by
  unfold LtC at h
  unfold begs may
  rw [ha]
  have : begB c = true := by unfold begB; simp only [decide_eq_true_eq]; omega
  rw [this]; rfl
/-- a name where it begins: with a ( behind, or not -/
theorem word_wd {pre nm post : List Int} (h : Wd nm) (hs : inN (pre ++ (nm ++ post)) (pre.length + nm.length) = false) :
    nxt (pre ++ (nm ++ post)) pre.length = (if at' (pre ++ (nm ++ post)) (pre.length + nm.length) = 40 then (3, str nm, 0, pre.length + nm.length + 1) else (2, str nm, 0, pre.length + nm.length)) := by
  have hn := name_app nm pre post h.wit hs
  obtain ⟨⟨c, r, rfl, hc⟩, _⟩ := h
  have hlt : pre.length < (pre ++ (c :: r ++ post)).length := by simp
  have ha : at' (pre ++ (c :: r ++ post)) pre.length = c := at_app pre c (r ++ post)
  have hg : g (pre ++ (c :: r ++ post)) pre.length = c := by rw [← at_in hlt]; exact ha
  have hb := begs_let ha hc
  unfold LtC at hc
  have hnum : numB c = false := by unfold numB; apply decide_eq_false; omega
  unfold nxt
  rw [hg, if_neg (by omega), if_neg (by omega), if_neg (by rw [hnum]; simp)]
  unfold rest
  rw [hg, if_neg (by omega), if_pos hb, hn]
theorem scan_whole {l : List Int} {r : Int × ByteArray × Int × Nat} (hl : 0 < l.length) (hw : whiB (at' l 0) = false) (ho : opn l 0 = false) (hn : nxt l 0 = r) (he : l.length ≤ r.2.2.2) : scan l 0 = [tokOf r] := by
  rw [scan_tok hl hw ho, hn, scan_end (by omega)]
theorem wd_pos {nm : List Int} (h : Wd nm) : 0 < nm.length := by
  obtain ⟨⟨c, r, rfl, _⟩, _⟩ := h
  simp
theorem wd_gap {nm post : List Int} (h : Wd nm) : whiB (at' (nm ++ post) 0) = false ∧ opn (nm ++ post) 0 = false := by
  obtain ⟨⟨c, r, rfl, hc⟩, _⟩ := h
  unfold LtC at hc
  exact no_gap (at_app [] c (r ++ post)) (by omega)
/-- the name alone -/
theorem scan_n1 {nm : List Int} (h : Wd nm) : scan nm 0 = [(2, str nm, 0)] := by
  have hx := word_wd (pre := []) (post := []) h (by simp only [List.nil_append, List.append_nil, List.length_nil, Nat.zero_add]; exact inN_end nm)
  simp only [List.nil_append, List.append_nil, List.length_nil, Nat.zero_add] at hx
  rw [at_end, if_neg (by decide)] at hx
  have hg := wd_gap (post := []) h
  rw [List.append_nil] at hg
  exact scan_whole (wd_pos h) hg.1 hg.2 hx (Nat.le_refl _)
/-- with a bracket behind -/
theorem scan_n4 {nm : List Int} (h : Wd nm) : scan (nm ++ [40]) 0 = [(3, str nm, 0)] := by
  have hx := word_wd (pre := []) (post := [40]) h (by simp only [List.nil_append, List.length_nil, Nat.zero_add]; exact inN_stop rfl (by decide))
  simp only [List.nil_append, List.length_nil, Nat.zero_add] at hx
  rw [at_app, if_pos rfl] at hx
  have hg := wd_gap (post := [40]) h
  exact scan_whole (by simp) hg.1 hg.2 hx (by simp)
/-- with an @ ahead -/
theorem scan_n2 {nm : List Int} (h : Wd nm) : scan (64 :: nm) 0 = [(4, str nm, 0)] := by
  have hn := name_app nm [64] [] h.wit (by rw [List.append_nil]; have := inN_end (64 :: nm); rw [List.length_cons] at this; rw [show [(64 : Int)].length + nm.length = nm.length + 1 by simp; omega]; exact this)
  rw [List.append_nil] at hn
  have e : ([64] : List Int) ++ nm = 64 :: nm := rfl
  have e1 : ([64] : List Int).length = 1 := rfl
  rw [e, e1] at hn
  have hb : begs (64 :: nm) 1 = true := by
    obtain ⟨⟨c, r, rfl, hc⟩, _⟩ := h
    exact begs_let (at_app [64] c r) hc
  have hx : nxt (64 :: nm) 0 = (4, str nm, 0, 1 + nm.length) := by
    have hg : g (64 :: nm) 0 = 64 := rfl
    unfold nxt
    rw [hg, if_neg (by omega), if_neg (by omega), if_neg (by rw [show numB 64 = false from rfl]; simp)]
    unfold rest
    rw [hg, if_pos ⟨rfl, hb⟩, hn]
  have hgap := no_gap (l := 64 :: nm) (k := 0) (c := 64) (at_app [] 64 nm) (by omega)
  exact scan_whole (by simp) hgap.1 hgap.2 hx (by simp; omega)
/-- with a # ahead -/
theorem scan_n3 {nm : List Int} (h : Wd nm) : scan (35 :: nm) 0 = [(5, str nm, 0)] := by
  have hn := name_app nm [35] [] h.wit (by rw [List.append_nil]; have := inN_end (35 :: nm); rw [List.length_cons] at this; rw [show [(35 : Int)].length + nm.length = nm.length + 1 by simp; omega]; exact this)
  rw [List.append_nil] at hn
  have e : ([35] : List Int) ++ nm = 35 :: nm := rfl
  have e1 : ([35] : List Int).length = 1 := rfl
  rw [e, e1] at hn
  have hb : witB (at' (35 :: nm) 1) = true := by
    obtain ⟨⟨c, r, rfl, hc⟩, hall⟩ := h
    have : at' (35 :: c :: r) 1 = c := at_app [35] c r
    rw [this]
    exact (Wd.wit ⟨⟨c, r, rfl, hc⟩, hall⟩ c (by simp)).1
  have hx : nxt (35 :: nm) 0 = (5, str nm, 0, 1 + nm.length) := by
    have hg : g (35 :: nm) 0 = 35 := rfl
    unfold nxt
    rw [hg, if_neg (by omega), if_pos ⟨rfl, .inl hb⟩, hn]
  have hgap := no_gap (l := 35 :: nm) (k := 0) (c := 35) (at_app [] 35 nm) (by omega)
  exact scan_whole (by simp) hgap.1 hgap.2 hx (by simp; omega)
/-- a hex digit -/
def hx (d : Int) : Int := if d < 10 then 48 + d else 87 + d
theorem hexV_hx {d : Int} (h0 : 0 ≤ d) (h1 : d ≤ 15) : hexV (hx d) = d := by
  unfold hexV hx; omega
/-- a character, escaped by its number -/
def esc4 (c : Int) : List Int := [92, hx (c / 16), hx (c % 16), 32]
def escs (nm : List Int) : List Int := nm.flatMap esc4
theorem escs_cons (c : Int) (nm : List Int) : escs (c :: nm) = 92 :: hx (c / 16) :: hx (c % 16) :: 32 :: escs nm := rfl
theorem escs_len (nm : List Int) : (escs nm).length = 4 * nm.length := by
  induction nm with
  | nil => rfl
  | cons c r ih => rw [escs_cons]; simp [ih]; omega
theorem escs_asc {nm : List Int} (h : ∀ c ∈ nm, NmC c) : ∀ x ∈ escs nm, Asc x := by
  induction nm with
  | nil => intro x hx; cases hx
  | cons c r ih =>
    have hc := h c (by simp)
    unfold NmC at hc
    intro x hm
    rw [escs_cons] at hm
    simp only [List.mem_cons] at hm
    rcases hm with rfl | rfl | rfl | rfl | hm
    · unfold Asc; omega
    · unfold Asc hx; omega
    · unfold Asc hx; omega
    · unfold Asc; omega
    · exact ih (fun d hd => h d (by simp [hd])) x hm
/-- one such escape -/
theorem esc_one {pre post : List Int} {c : Int} (h : NmC c) : esc (pre ++ 92 :: hx (c / 16) :: hx (c % 16) :: 32 :: post) pre.length = true ∧ meant (pre ++ 92 :: hx (c / 16) :: hx (c % 16) :: 32 :: post) pre.length = (c, pre.length + 4) := by
  unfold NmC at h
  have a0 := at_app pre 92 (hx (c / 16) :: hx (c % 16) :: 32 :: post)
  have a1 := at_app1 pre 92 (hx (c / 16)) (hx (c % 16) :: 32 :: post)
  have a2 : at' (pre ++ 92 :: hx (c / 16) :: hx (c % 16) :: 32 :: post) (pre.length + 1 + 1) = hx (c % 16) := by
    have := at_app1 (pre ++ [92]) (hx (c / 16)) (hx (c % 16)) (32 :: post)
    rw [List.length_append] at this
    simpa using this
  have a3 : at' (pre ++ 92 :: hx (c / 16) :: hx (c % 16) :: 32 :: post) (pre.length + 1 + 1 + 1) = 32 := by
    have := at_app1 (pre ++ [92, hx (c / 16)]) (hx (c % 16)) 32 post
    rw [List.length_append] at this
    simpa using this
  have v1 : hexV (hx (c / 16)) = c / 16 := hexV_hx (by omega) (by omega)
  have v2 : hexV (hx (c % 16)) = c % 16 := hexV_hx (by omega) (by omega)
  have v3 : hexV 32 = -1 := by decide
  have r6 : hexR 6 (pre ++ 92 :: hx (c / 16) :: hx (c % 16) :: 32 :: post) (pre.length + 1) 0 = (c, pre.length + 1 + 1 + 1) := by
    rw [hexR_yes (by rw [a1, v1]; omega), hexR_yes (by rw [a2, v2]; omega), hexR_no (by rw [a3, v3]; omega), a1, v1, a2, v2]
    congr 1
    omega
  constructor
  · unfold esc
    apply decide_eq_true
    rw [a0, a1]
    unfold hx
    refine ⟨rfl, ?_, ?_⟩
    · omega
    · omega
  · rw [meant_some r6 (by omega)]
    have e1 : meantN c = c := by
      unfold meantN
      rw [if_neg]
      rintro (e | e)
      · omega
      · unfold isB at e
        have := of_decide_eq_false e
        omega
    have e2 : meantK (pre ++ 92 :: hx (c / 16) :: hx (c % 16) :: 32 :: post) (pre.length + 1 + 1 + 1) = pre.length + 4 := by
      unfold meantK
      rw [a3, if_pos (show whiB 32 = true from rfl)]
    rw [e1, e2]
theorem name_escs : ∀ (nm pre : List Int), (∀ c ∈ nm, NmC c) → name (pre ++ escs nm) pre.length = (nm, pre.length + 4 * nm.length)
  | [], pre, _ => by
    have e : pre ++ escs [] = pre := by unfold escs; simp
    rw [e, name_no (inN_end pre)]; rfl
  | c :: nm, pre, h => by
    obtain ⟨h1, h2⟩ := esc_one (pre := pre) (post := escs nm) (h c (by simp))
    rw [escs_cons]
    have hin : inN (pre ++ 92 :: hx (c / 16) :: hx (c % 16) :: 32 :: escs nm) pre.length = true := by unfold inN; rw [h1]; rfl
    have ho : oneN (pre ++ 92 :: hx (c / 16) :: hx (c % 16) :: 32 :: escs nm) pre.length = (c, pre.length + 4) := by
      unfold oneN; rw [at_app, if_pos rfl, h2]
    have e : pre ++ 92 :: hx (c / 16) :: hx (c % 16) :: 32 :: escs nm = (pre ++ [92, hx (c / 16), hx (c % 16), 32]) ++ escs nm := by simp
    have el : (pre ++ [92, hx (c / 16), hx (c % 16), 32]).length = pre.length + 4 := by simp
    have ih := name_escs nm (pre ++ [92, hx (c / 16), hx (c % 16), 32]) (fun d hd => h d (by simp [hd]))
    rw [el, ← e] at ih
    rw [name_yes hin, ho]
    simp only
    rw [ih]
    simp; omega
/-- escaped by its characters' numbers -/
theorem scan_n5 {nm : List Int} (h : Wd nm) : scan (escs nm) 0 = [(2, str nm, 0)] := by
  have hn := name_escs nm [] h.2
  simp only [List.nil_append, List.length_nil, Nat.zero_add] at hn
  have hpos := wd_pos h
  have hlen := escs_len nm
  have hend : at' (escs nm) (4 * nm.length) = -1 := at_out (by omega)
  obtain ⟨⟨c, r, hcr, hc⟩, hall⟩ := h
  have h1 : esc (escs nm) 0 = true := by
    rw [hcr, escs_cons]
    exact (esc_one (pre := []) (post := escs r) (hall c (by rw [hcr]; simp))).1
  have hg : g (escs nm) 0 = 92 := by rw [hcr]; rfl
  have hat : at' (escs nm) 0 = 92 := by rw [at_in (by omega), hg]
  have hb : begs (escs nm) 0 = true := by unfold begs may; rw [h1, Bool.or_true]; rfl
  have hxx : nxt (escs nm) 0 = (2, str nm, 0, 4 * nm.length) := by
    unfold nxt
    rw [hg, if_neg (by omega), if_neg (by omega), if_neg (by rw [show numB 92 = false from rfl]; simp)]
    unfold rest
    rw [hg, if_neg (by omega), if_pos hb, hn]
    simp only
    rw [hend, if_neg (by decide)]
  have hgap := no_gap hat (by omega)
  exact scan_whole (by omega) hgap.1 hgap.2 hxx (by rw [hlen]; exact Nat.le_refl _)
/-- each is read as itself -/
theorem rd_self {l : List Int} (h : ∀ c ∈ l, Asc c) : rd l = l := by
  have := rd_asc l h []
  rwa [List.append_nil, rd_nil, List.append_nil] at this
end Tk
end Go.Proofs.YtppgklmliklkkaaDoor
