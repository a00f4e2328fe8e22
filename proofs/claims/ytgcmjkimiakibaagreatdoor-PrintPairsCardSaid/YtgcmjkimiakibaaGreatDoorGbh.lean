/-
  Walks of single and of the scanner's word.
-/
import Derived.Test.YtgcmjkimiakibaaGreatDoorGbe
import Derived.Test.YtgcmjkimiakibaaGreatDoorGal
import Derived.Test.YtgcmjkimiakibaaGreatDoorGad
import Derived.Test.YtgcmjkimiakibaaGreatDoorGbg
import Derived.Deep.RegionHeld3
namespace Go.Proofs.YtgcmjkimiakibaaGreatDoor
open Go.RowKit

/-- the token of a character that stands for itself -/
def Tk.sgl (c : Int) : Int × ByteArray :=
  if c = 58 then (14, ⟨#[]⟩) else if c = 59 then (15, ⟨#[]⟩) else if c = 44 then (16, ⟨#[]⟩) else (Tk.symK c, Tk.str [c])
/-- a token that is made -/
def Single (c : Int) (w : World) (e : Ending) (w' : World) : Prop := e = .returned (tokV (Tk.sgl c).1 (Tk.sgl c).2 0) ∧ Below w.heap.size w w'
theorem sgl_other {c : Int} (h1 : c ≠ 58) (h2 : c ≠ 59) (h3 : c ≠ 44) : Tk.sgl c = (Tk.symK c, Tk.str [c]) := by
  unfold Tk.sgl; rw [if_neg h1, if_neg h2, if_neg h3]
theorem one_bs (w : World) (c : Int) : Bs (w.alloc (.cells #[.int .i32 c] 21)) (w.alloc (.cells #[.int .i32 c] 21)).heap.size .i32 (some ⟨w.heap.size, 0, none⟩) [c] := fun _ =>
  ⟨w.heap.size, 0, rfl, by simp, fun j hj => by
    match j, hj with
    | 0, _ => simp [Ru.g, go_sem]⟩
theorem sgl_below {w w2 : World} (h : Below (w.heap.size + 1) (w.alloc zeroTok) w2) (x y z : Value) : Below w.heap.size w (((w2.setCell ⟨w.heap.size, 0, none⟩ x).setCell ⟨w.heap.size, 1, none⟩ y).setCell ⟨w.heap.size, 2, none⟩ z) := tok_below h x y z

set_option maxRecDepth 100000 in
set_option maxHeartbeats 4000000 in
theorem single_any (c : Int) (w : World) (h1 : 0 ≤ c) (h2 : c ≤ 1114111) :
    Calls Tryz.prog 45 #[.int .i32 c] w (Single c w) := by
  have CW : Hid (∀ (w' : World), Bs w' w'.heap.size .i32 (some ⟨w.heap.size + 1, 0, none⟩) [c] → Calls Tryz.prog 77 #[.slice (some ⟨w.heap.size + 1, 0, none⟩) 1 1] w' (fun e w2 => ∃ (A : Option Addr) (cap : Nat), e = .returned (.slice A (Ru.wr [c]).length cap) ∧ (Ru.wr [c]).length ≤ cap ∧ Bs w2 w2.heap.size .u8 A (Ru.wr [c]) ∧ Below w'.heap.size w' w2)) := Lib.hid fun w' hb =>
    (write_any [c] (some ⟨w.heap.size + 1, 0, none⟩) 1 w' (by simp) (by simp) (by intro x hx; rw [List.mem_singleton] at hx; subst hx; omega) hb).mono fun _ _ h => made_form h
  have B0 := one_bs (w.alloc (.cells #[.int .i64 0, .string ⟨#[]⟩, .int .i64 0] 32)) c
  rw [show (w.alloc (.cells #[.int .i64 0, .string ⟨#[]⟩, .int .i64 0] 32)).heap.size = w.heap.size + 1 by simp] at B0
  have HB0 := Lib.hid B0
  clear B0
  by_cases c40 : c = 40
  · have HE : Hid (Tk.sgl c = (12, Tk.str [c])) := Lib.hid (by subst c40; rfl)
    subst c40
    generalize hs : Ru.wr [40] = r at *
    go_enter Tryz.func45, Tryz.ntmps45
    go_wp2_with (go_at_call 77; ((with_reducible refine (CW.out _ HB0.out).mono ?_); rintro e w1 ⟨A2, c2, rfl, k2, B2, b2⟩; have cv := conv_bytes c2 B2; have hb2 : Below (w.heap.size + 1) (w.alloc zeroTok) w1 := ((Below.refl _ _).alloc (by simp) _).trans (b2.mono (by simp)); obtain ⟨z0, z1, z2, f0, f1, f2⟩ := tok_cells hb2))
    refine bodyPost_ret (v := tokV 12 (strOfNums r) 0) (by simp [results, tokV, Tryz.results45, go_sem, z0, z1, z2]) rfl ⟨by rw [HE.out]; simp only [Tk.str, hs], sgl_below hb2 _ _ _⟩
  by_cases c91 : c = 91
  · have HE : Hid (Tk.sgl c = (12, Tk.str [c])) := Lib.hid (by subst c91; rfl)
    subst c91
    generalize hs : Ru.wr [91] = r at *
    go_enter Tryz.func45, Tryz.ntmps45
    go_wp2_with (go_at_call 77; ((with_reducible refine (CW.out _ HB0.out).mono ?_); rintro e w1 ⟨A2, c2, rfl, k2, B2, b2⟩; have cv := conv_bytes c2 B2; have hb2 : Below (w.heap.size + 1) (w.alloc zeroTok) w1 := ((Below.refl _ _).alloc (by simp) _).trans (b2.mono (by simp)); obtain ⟨z0, z1, z2, f0, f1, f2⟩ := tok_cells hb2))
    refine bodyPost_ret (v := tokV 12 (strOfNums r) 0) (by simp [results, tokV, Tryz.results45, go_sem, z0, z1, z2]) rfl ⟨by rw [HE.out]; simp only [Tk.str, hs], sgl_below hb2 _ _ _⟩
  by_cases c123 : c = 123
  · have HE : Hid (Tk.sgl c = (12, Tk.str [c])) := Lib.hid (by subst c123; rfl)
    subst c123
    generalize hs : Ru.wr [123] = r at *
    go_enter Tryz.func45, Tryz.ntmps45
    go_wp2_with (go_at_call 77; ((with_reducible refine (CW.out _ HB0.out).mono ?_); rintro e w1 ⟨A2, c2, rfl, k2, B2, b2⟩; have cv := conv_bytes c2 B2; have hb2 : Below (w.heap.size + 1) (w.alloc zeroTok) w1 := ((Below.refl _ _).alloc (by simp) _).trans (b2.mono (by simp)); obtain ⟨z0, z1, z2, f0, f1, f2⟩ := tok_cells hb2))
    refine bodyPost_ret (v := tokV 12 (strOfNums r) 0) (by simp [results, tokV, Tryz.results45, go_sem, z0, z1, z2]) rfl ⟨by rw [HE.out]; simp only [Tk.str, hs], sgl_below hb2 _ _ _⟩
  by_cases c41 : c = 41
  · have HE : Hid (Tk.sgl c = (13, Tk.str [c])) := Lib.hid (by subst c41; rfl)
    subst c41
    generalize hs : Ru.wr [41] = r at *
    go_enter Tryz.func45, Tryz.ntmps45
    go_wp2_with (go_at_call 77; ((with_reducible refine (CW.out _ HB0.out).mono ?_); rintro e w1 ⟨A2, c2, rfl, k2, B2, b2⟩; have cv := conv_bytes c2 B2; have hb2 : Below (w.heap.size + 1) (w.alloc zeroTok) w1 := ((Below.refl _ _).alloc (by simp) _).trans (b2.mono (by simp)); obtain ⟨z0, z1, z2, f0, f1, f2⟩ := tok_cells hb2))
    refine bodyPost_ret (v := tokV 13 (strOfNums r) 0) (by simp [results, tokV, Tryz.results45, go_sem, z0, z1, z2]) rfl ⟨by rw [HE.out]; simp only [Tk.str, hs], sgl_below hb2 _ _ _⟩
  by_cases c93 : c = 93
  · have HE : Hid (Tk.sgl c = (13, Tk.str [c])) := Lib.hid (by subst c93; rfl)
    subst c93
    generalize hs : Ru.wr [93] = r at *
    go_enter Tryz.func45, Tryz.ntmps45
    go_wp2_with (go_at_call 77; ((with_reducible refine (CW.out _ HB0.out).mono ?_); rintro e w1 ⟨A2, c2, rfl, k2, B2, b2⟩; have cv := conv_bytes c2 B2; have hb2 : Below (w.heap.size + 1) (w.alloc zeroTok) w1 := ((Below.refl _ _).alloc (by simp) _).trans (b2.mono (by simp)); obtain ⟨z0, z1, z2, f0, f1, f2⟩ := tok_cells hb2))
    refine bodyPost_ret (v := tokV 13 (strOfNums r) 0) (by simp [results, tokV, Tryz.results45, go_sem, z0, z1, z2]) rfl ⟨by rw [HE.out]; simp only [Tk.str, hs], sgl_below hb2 _ _ _⟩
  by_cases c125 : c = 125
  · have HE : Hid (Tk.sgl c = (13, Tk.str [c])) := Lib.hid (by subst c125; rfl)
    subst c125
    generalize hs : Ru.wr [125] = r at *
    go_enter Tryz.func45, Tryz.ntmps45
    go_wp2_with (go_at_call 77; ((with_reducible refine (CW.out _ HB0.out).mono ?_); rintro e w1 ⟨A2, c2, rfl, k2, B2, b2⟩; have cv := conv_bytes c2 B2; have hb2 : Below (w.heap.size + 1) (w.alloc zeroTok) w1 := ((Below.refl _ _).alloc (by simp) _).trans (b2.mono (by simp)); obtain ⟨z0, z1, z2, f0, f1, f2⟩ := tok_cells hb2))
    refine bodyPost_ret (v := tokV 13 (strOfNums r) 0) (by simp [results, tokV, Tryz.results45, go_sem, z0, z1, z2]) rfl ⟨by rw [HE.out]; simp only [Tk.str, hs], sgl_below hb2 _ _ _⟩
  by_cases c58 : c = 58
  · have HE : Hid (Tk.sgl c = (14, ⟨#[]⟩)) := Lib.hid (by subst c58; rfl)
    subst c58
    generalize hs : Ru.wr [58] = r at *
    go_enter Tryz.func45, Tryz.ntmps45
    go_wp2_with (go_at_call 77; ((with_reducible refine (CW.out _ HB0.out).mono ?_); rintro e w1 ⟨A2, c2, rfl, k2, B2, b2⟩; have cv := conv_bytes c2 B2; have hb2 : Below (w.heap.size + 1) (w.alloc zeroTok) w1 := ((Below.refl _ _).alloc (by simp) _).trans (b2.mono (by simp)); obtain ⟨z0, z1, z2, f0, f1, f2⟩ := tok_cells hb2))
    refine bodyPost_ret (v := tokV 14 (⟨#[]⟩) 0) (by simp [results, tokV, Tryz.results45, go_sem, z0, z1, z2]) rfl ⟨by rw [HE.out], sgl_below hb2 _ _ _⟩
  by_cases c59 : c = 59
  · have HE : Hid (Tk.sgl c = (15, ⟨#[]⟩)) := Lib.hid (by subst c59; rfl)
    subst c59
    generalize hs : Ru.wr [59] = r at *
    go_enter Tryz.func45, Tryz.ntmps45
    go_wp2_with (go_at_call 77; ((with_reducible refine (CW.out _ HB0.out).mono ?_); rintro e w1 ⟨A2, c2, rfl, k2, B2, b2⟩; have cv := conv_bytes c2 B2; have hb2 : Below (w.heap.size + 1) (w.alloc zeroTok) w1 := ((Below.refl _ _).alloc (by simp) _).trans (b2.mono (by simp)); obtain ⟨z0, z1, z2, f0, f1, f2⟩ := tok_cells hb2))
    refine bodyPost_ret (v := tokV 15 (⟨#[]⟩) 0) (by simp [results, tokV, Tryz.results45, go_sem, z0, z1, z2]) rfl ⟨by rw [HE.out], sgl_below hb2 _ _ _⟩
  by_cases c44 : c = 44
  · have HE : Hid (Tk.sgl c = (16, ⟨#[]⟩)) := Lib.hid (by subst c44; rfl)
    subst c44
    generalize hs : Ru.wr [44] = r at *
    go_enter Tryz.func45, Tryz.ntmps45
    go_wp2_with (go_at_call 77; ((with_reducible refine (CW.out _ HB0.out).mono ?_); rintro e w1 ⟨A2, c2, rfl, k2, B2, b2⟩; have cv := conv_bytes c2 B2; have hb2 : Below (w.heap.size + 1) (w.alloc zeroTok) w1 := ((Below.refl _ _).alloc (by simp) _).trans (b2.mono (by simp)); obtain ⟨z0, z1, z2, f0, f1, f2⟩ := tok_cells hb2))
    refine bodyPost_ret (v := tokV 16 (⟨#[]⟩) 0) (by simp [results, tokV, Tryz.results45, go_sem, z0, z1, z2]) rfl ⟨by rw [HE.out], sgl_below hb2 _ _ _⟩
  have HE : Hid (Tk.sgl c = (11, Tk.str [c])) := Lib.hid (by rw [sgl_other c58 c59 c44]; unfold Tk.symK; rw [if_neg (by omega), if_neg (by omega)])
  have n40 := Ru.eq_f c40
  have n91 := Ru.eq_f c91
  have n123 := Ru.eq_f c123
  have n41 := Ru.eq_f c41
  have n93 := Ru.eq_f c93
  have n125 := Ru.eq_f c125
  have n58 := Ru.eq_f c58
  have n59 := Ru.eq_f c59
  have n44 := Ru.eq_f c44
  clear c40 c91 c123 c41 c93 c125 c58 c59 c44
  generalize hs : Ru.wr [c] = r at *
  go_enter Tryz.func45, Tryz.ntmps45
  go_wp2_with (go_at_call 77; ((with_reducible refine (CW.out _ HB0.out).mono ?_); rintro e w1 ⟨A2, c2, rfl, k2, B2, b2⟩; have cv := conv_bytes c2 B2; have hb2 : Below (w.heap.size + 1) (w.alloc zeroTok) w1 := ((Below.refl _ _).alloc (by simp) _).trans (b2.mono (by simp)); obtain ⟨z0, z1, z2, f0, f1, f2⟩ := tok_cells hb2))
  refine bodyPost_ret (v := tokV 11 (strOfNums r) 0) (by simp [results, tokV, Tryz.results45, go_sem, z0, z1, z2]) rfl ⟨by rw [HE.out]; simp only [Tk.str, hs], sgl_below hb2 _ _ _⟩
end Go.Proofs.YtgcmjkimiakibaaGreatDoor

/-
  Walks of the scanner's word, decimal and number.
-/
namespace Go.Proofs.YtgcmjkimiakibaaGreatDoor
open Go.RowKit

section
variable {w : World} {g cap k : Nat} {A : Option Addr} {l : List Int} {pl : ByteArray}

/-- the kind of a word, and where it ends -/
def Tk.wrd (l : List Int) (k : Nat) : Int × Nat := if Tk.at' l (Tk.name l k).2 = 40 then (3, (Tk.name l k).2 + 1) else (2, (Tk.name l k).2)
set_option maxRecDepth 100000 in
set_option maxHeartbeats 4000000 in
theorem word_any (hC : Tk.Chr l) (hm : l.length ≤ 65000) (hk : k ≤ l.length) (S : Sc w g A cap l pl k) :
    Calls Tryz.prog 44 #[.pointer (some ⟨g, 0, none⟩)] w (Stp g A cap l pl (Tk.wrd l k).2 (tokV (Tk.wrd l k).1 (Tk.str (Tk.name l k).1) 0) w) := by
  have hgb := S.lt
  have S := S.alloc (.cells #[.int .i64 0, .string ⟨#[]⟩, .int .i64 0] 32)
  have M := (Mv.refl g w).alloc (.cells #[.int .i64 0, .string ⟨#[]⟩, .int .i64 0] 32)
  have Z := Tz.new w
  have N0 : Hid (∀ w', Sc w' g A cap l pl k → Calls Tryz.prog 40 #[.pointer (some ⟨g, 0, none⟩)] w' (Stp g A cap l pl (Tk.name l k).2 (.string (Tk.str (Tk.name l k).1)) w')) := Lib.hid fun w' h => name_any hC hm hk h
  have hn := Tk.name_le l _ k (Nat.le_refl _) hk
  have HWR : Hid (Tk.wrd l k = if Tk.at' l (Tk.name l k).2 = 40 then (3, (Tk.name l k).2 + 1) else (2, (Tk.name l k).2)) := Lib.hid rfl
  clear hC
  generalize Tk.name l k = nm at *
  obtain ⟨ds, j⟩ := nm
  simp only at N0 hn HWR
  have C0 : Hid (∀ w', Sc w' g A cap l pl j → Calls Tryz.prog 17 #[.pointer (some ⟨g, 0, none⟩), .int .i64 0] w' (Stp g A cap l pl j (.int .i32 (Tk.at' l j)) w')) := Lib.hid fun w' h => peek_any 0 0 rfl (by omega) (by omega) (by omega) h
  by_cases h40 : Tk.at' l j = 40
  · have hj : j < l.length := Tk.at_lt (fun e => by rw [e] at h40; exact absurd h40 (by decide))
    have T0 : Hid (∀ w', Sc w' g A cap l pl j → Calls Tryz.prog 39 #[.pointer (some ⟨g, 0, none⟩)] w' (Stp g A cap l pl (j + 1) (.int .i32 (Tk.at' l j)) w')) := Lib.hid fun w' h => take_in (by omega) hj h
    have HE : Hid (Tk.wrd l k = (3, j + 1)) := Lib.hid (by rw [HWR.out, if_pos h40])
    rw [h40] at C0
    clear h40 HWR
    generalize Tk.at' l j = y at *
    go_enter Tryz.func44, Tryz.ntmps44
    go_wp2_with (first | (go_at_call 40; (first | (with_reducible refine (N0.out _ S).mono ?_)); rintro e w1 ⟨rfl, S, m1⟩; have Z := Z.mv m1 hgb; have M := M.trans m1; clear m1; obtain ⟨z0, z1, z2, f0, f1, f2⟩ := Z.cells) | (go_at_call 17; (first | (with_reducible refine (C0.out _ S).mono ?_)); rintro e w1 ⟨rfl, S, m1⟩; have Z := Z.mv m1 hgb; have M := M.trans m1; clear m1; obtain ⟨z0, z1, z2, f0, f1, f2⟩ := Z.cells) | (go_at_call 39; (first | (with_reducible refine (T0.out _ S).mono ?_)); rintro e w1 ⟨rfl, S, m1⟩; have Z := Z.mv m1 hgb; have M := M.trans m1; clear m1; obtain ⟨z0, z1, z2, f0, f1, f2⟩ := Z.cells))
    refine bodyPost_ret (v := tokV (3) (Tk.str ds) (0)) (by simp [results, tokV, Tryz.results44, go_sem, z0, z1, z2]) rfl ⟨by rw [HE.out], sc_stores (by rw [HE.out]; exact S) hgb _ _ _, tz_stores M (Nat.le_refl _) _ _ _⟩
  · have n40 := Ru.eq_f h40
    have HE : Hid (Tk.wrd l k = (2, j)) := Lib.hid (by rw [HWR.out, if_neg h40])
    clear h40 HWR
    generalize Tk.at' l j = y at *
    go_enter Tryz.func44, Tryz.ntmps44
    go_wp2_with (first | (go_at_call 40; (first | (with_reducible refine (N0.out _ S).mono ?_)); rintro e w1 ⟨rfl, S, m1⟩; have Z := Z.mv m1 hgb; have M := M.trans m1; clear m1; obtain ⟨z0, z1, z2, f0, f1, f2⟩ := Z.cells) | (go_at_call 17; (first | (with_reducible refine (C0.out _ S).mono ?_)); rintro e w1 ⟨rfl, S, m1⟩; have Z := Z.mv m1 hgb; have M := M.trans m1; clear m1; obtain ⟨z0, z1, z2, f0, f1, f2⟩ := Z.cells))
    refine bodyPost_ret (v := tokV (2) (Tk.str ds) (0)) (by simp [results, tokV, Tryz.results44, go_sem, z0, z1, z2]) rfl ⟨by rw [HE.out], sc_stores (by rw [HE.out]; exact S) hgb _ _ _, tz_stores M (Nat.le_refl _) _ _ _⟩

set_option maxRecDepth 100000 in
set_option maxHeartbeats 1000000 in
theorem decimal_any (hm : l.length ≤ 65000) (hk : k ≤ l.length) (hp : pl.data.toList = l.map Tk.p8) (S : Sc w g A cap l pl k) :
    Calls Tryz.prog 41 #[.pointer (some ⟨g, 0, none⟩)] w (Stp g A cap l pl k (.int .i64 (Tk.nlen l k : Nat)) w) := by
  have hgb := S.lt
  have c1 := S.c1
  have c2 := S.c2
  have hsz : pl.size = l.length := by
    have := congrArg List.length hp
    rw [List.length_map, ← Lib.size_eq] at this
    exact this
  have e2 : (k : Int) ≤ (pl.size : Int) := by omega
  have e3 : (0 : Int) ≤ (k : Int) := by omega
  have CL : Hid (∀ w', Calls Tryz.prog 74 #[.string (pl.extract k pl.size)] w' fun e w2 => e = .returned (.int .i64 (Tk.nlen l k : Nat)) ∧ Below w'.heap.size w' w2) := Lib.hid fun w' => by
    have h := length_any (pl.extract k pl.size) w' (by unfold maxLen; simp; omega)
    rw [Lib.extract_to_end, hp, Tk.plain_len] at h
    exact h
  have HS := Lib.hid S
  clear S hp hsz
  generalize Tk.nlen l k = n at *
  go_enter Tryz.func41, Tryz.ntmps41
  go_upto_region 1 with fail
  go_region_held3 (fun w' => w'.cell? ⟨g, 1, none⟩ = some (.int .i64 k) ∧ w'.cell? ⟨g, 2, none⟩ = some (.string pl))
    (first | go_keep | (go_split_ands; exact ⟨(hb1.cell (p := ⟨g, 1, none⟩) hgb).trans (by assumption), (hb1.cell (p := ⟨g, 2, none⟩) hgb).trans (by assumption)⟩))
    (first | (go_at_call 74; refine (CL.out _).mono ?_; rintro e w2 ⟨rfl, hb1⟩))
  have hbx : Below w.heap.size w w2 := (Below.refl _ _).drew.trans hb1
  go_wp2_with fail
  go_ret
  exact ⟨rfl, HS.out.below hbx hgb, (Mv.refl _ _).then_ hbx (Nat.le_refl _)⟩

/-- the number's kind, its text, and where it ends -/
def Tk.nbr (l : List Int) (k : Nat) : Int × ByteArray × Nat :=
  if Tk.begs l k = true then (10, Tk.str (Tk.name l k).1, (Tk.name l k).2) else if Tk.at' l k = 37 then (9, ⟨#[]⟩, k + 1) else (8, ⟨#[]⟩, k)
set_option maxRecDepth 100000 in
set_option maxHeartbeats 4000000 in
theorem number_any (hC : Tk.Chr l) (hm : l.length ≤ 65000) (hk : k ≤ l.length) (hp : pl.data.toList = l.map Tk.p8) (h0 : 0 < Tk.nlen l k) (S : Sc w g A cap l pl k) :
    Calls Tryz.prog 42 #[.pointer (some ⟨g, 0, none⟩)] w (Stp g A cap l pl (Tk.nbr l (k + Tk.nlen l k)).2.2 (tokV (Tk.nbr l (k + Tk.nlen l k)).1 (Tk.nbr l (k + Tk.nlen l k)).2.1 (Tk.nval l k)) w) := by
  have hgb := S.lt
  have S := S.alloc (.cells #[.int .i64 0, .string ⟨#[]⟩, .int .i64 0] 32)
  have M := (Mv.refl g w).alloc (.cells #[.int .i64 0, .string ⟨#[]⟩, .int .i64 0] 32)
  have Z := Tz.new w
  have D0 : Hid (∀ w', Sc w' g A cap l pl k → Calls Tryz.prog 41 #[.pointer (some ⟨g, 0, none⟩)] w' (Stp g A cap l pl k (.int .i64 (Tk.nlen l k : Nat)) w')) := Lib.hid fun w' h => decimal_any hm hk hp h
  have hsz : pl.size = l.length := by
    have := congrArg List.length hp
    rw [List.length_map, ← Lib.size_eq] at this
    exact this
  have HCC := Lib.hid hC
  have CP : Hid (∀ w', Calls Tryz.prog 75 #[.string (pl.extract k (k + Tk.nlen l k))] w' fun e w2 => e = .returned (.tuple #[.int .i64 (Tk.nval l k), .bool true]) ∧ Below w'.heap.size w' w2) := Lib.hid fun w' => by
    have hx : (pl.extract k (k + Tk.nlen l k)).data.toList = ((l.map Tk.p8).drop k).take (Tk.nlen l k) := by
      rw [Lib.extract_data, hp, show k + Tk.nlen l k - k = Tk.nlen l k by omega]
    have hd : Fx.isDec (((l.map Tk.p8).drop k).take (Tk.nlen l k)) = true := by
      have := Fx.begins_yes (l := (l.map Tk.p8).drop k) (by rw [Tk.plain_len]; exact h0)
      rwa [Tk.plain_len] at this
    have hv : Tk.nval l k = Fx.num (((l.map Tk.p8).drop k).take (Tk.nlen l k)) := by
      rw [← Tk.plain_val]; unfold Tk.pv; rw [if_pos hd]
    have h := parse_yes (pl.extract k (k + Tk.nlen l k)) w' (by simp; omega) (by rw [hx]; exact hd)
    rw [hx, ← hv] at h
    exact h
  have hn := Tk.nlen_le l k hk
  generalize Tk.nval l k = v at *
  generalize Tk.nlen l k = n at *
  have e2 : (k : Int) ≤ ((k : Int) + (n : Int)) := by omega
  have e3 : ((k : Int) + (n : Int)) ≤ (pl.size : Int) := by omega
  have e1 : IntKind.i64.wrap ((k : Int) + (n : Int)) = (k : Int) + (n : Int) := IntWalk.i64_in _ (by omega)
  have e4 : (0 : Int) ≤ (k : Int) + (n : Int) := by omega
  have e5 : ((k : Int) + (n : Int)).toNat = k + n := by omega
  have P0 : Hid (∀ w', Sc w' g A cap l pl k → Calls Tryz.prog 71 #[.pointer (some ⟨g, 0, none⟩), .int .i64 n] w' (Stp g A cap l pl (k + n) (.tuple #[]) w')) := Lib.hid fun w' h => by have := pass_any _ n rfl (by omega) hk (by omega) h; rwa [Nat.min_eq_left (by omega)] at this
  clear hp hsz hC h0
  go_enter Tryz.func42, Tryz.ntmps42
  go_upto_region 2 with (go_at_call 41; (first | (with_reducible refine (D0.out _ S).mono ?_)); rintro e w1 ⟨rfl, S, m1⟩; have Z := Z.mv m1 hgb; have M := M.trans m1; clear m1; obtain ⟨z0, z1, z2, f0, f1, f2⟩ := Z.cells)
  have c1 := S.c1
  have c2 := S.c2
  go_region_held3 (fun w' => w'.cell? ⟨g, 1, none⟩ = some (.int .i64 k) ∧ w'.cell? ⟨g, 2, none⟩ = some (.string pl))
    (first | go_keep | (go_split_ands; exact ⟨(hb1.cell (p := ⟨g, 1, none⟩) S.lt).trans (by assumption), (hb1.cell (p := ⟨g, 2, none⟩) S.lt).trans (by assumption)⟩))
    (first | (go_at_call 75; refine (CP.out _).mono ?_; rintro e w2 ⟨rfl, hb1⟩))
  have hbx : Below w1.heap.size w1 w2 := (Below.refl _ _).drew.trans hb1
  have Z := Z.below hbx (lt_of_block Z)
  have M := M.then_ hbx M.size
  have S := S.below hbx S.lt
  clear hbx hb1 c1 c2 D0 CP e1 e2 e3 e4 e5
  have HJ : Hid (∀ jj, jj = k + n → Tk.nbr l (k + n) = Tk.nbr l jj) := Lib.hid (by rintro jj rfl; rfl)
  obtain ⟨j, hj⟩ : ∃ j, j = k + n := ⟨_, rfl⟩
  have HN := Lib.hid (HJ.out j hj)
  have hjl : j ≤ l.length := by omega
  rw [← hj] at P0
  clear HJ hj
  have N0 : Hid (∀ w', Sc w' g A cap l pl j → Calls Tryz.prog 43 #[.pointer (some ⟨g, 0, none⟩), .int .i64 0] w' (Stp g A cap l pl j (.bool (Tk.begs l j)) w')) := Lib.hid fun w' h => names_any 0 0 rfl HCC.out.pos (by omega) hjl (by omega) h
  have C0 : Hid (∀ w', Sc w' g A cap l pl j → Calls Tryz.prog 17 #[.pointer (some ⟨g, 0, none⟩), .int .i64 0] w' (Stp g A cap l pl j (.int .i32 (Tk.at' l j)) w')) := Lib.hid fun w' h => peek_any 0 0 rfl (by omega) hjl (by omega) h
  have HB : Hid (Tk.nbr l j = if Tk.begs l j = true then (10, Tk.str (Tk.name l j).1, (Tk.name l j).2) else if Tk.at' l j = 37 then (9, ⟨#[]⟩, j + 1) else (8, ⟨#[]⟩, j)) := Lib.hid rfl
  cases hb : Tk.begs l j
  · rw [hb] at N0
    by_cases h37 : Tk.at' l j = 37
    · have hjlt : j < l.length := Tk.at_lt (fun e => by rw [e] at h37; exact absurd h37 (by decide))
      have T0 : Hid (∀ w', Sc w' g A cap l pl j → Calls Tryz.prog 39 #[.pointer (some ⟨g, 0, none⟩)] w' (Stp g A cap l pl (j + 1) (.int .i32 (Tk.at' l j)) w')) := Lib.hid fun w' h => take_in (by omega) hjlt h
      have HE : Hid (Tk.nbr l (k + n) = (9, ⟨#[]⟩, j + 1)) := Lib.hid (by rw [HN.out, HB.out, if_neg (by rw [hb]; decide), if_pos h37])
      rw [h37] at C0
      clear HN HB hb h37
      generalize Tk.at' l j = y at *
      go_wp2_with (first | (go_at_call 71; (first | (with_reducible refine (P0.out _ S).mono ?_)); rintro e w1 ⟨rfl, S, m1⟩; have Z := Z.mv m1 hgb; have M := M.trans m1; clear m1; obtain ⟨z0, z1, z2, f0, f1, f2⟩ := Z.cells) | (go_at_call 43; (first | (with_reducible refine (N0.out _ S).mono ?_)); rintro e w1 ⟨rfl, S, m1⟩; have Z := Z.mv m1 hgb; have M := M.trans m1; clear m1; obtain ⟨z0, z1, z2, f0, f1, f2⟩ := Z.cells) | (go_at_call 17; (first | (with_reducible refine (C0.out _ S).mono ?_)); rintro e w1 ⟨rfl, S, m1⟩; have Z := Z.mv m1 hgb; have M := M.trans m1; clear m1; obtain ⟨z0, z1, z2, f0, f1, f2⟩ := Z.cells) | (go_at_call 39; (first | (with_reducible refine (T0.out _ S).mono ?_)); rintro e w1 ⟨rfl, S, m1⟩; have Z := Z.mv m1 hgb; have M := M.trans m1; clear m1; obtain ⟨z0, z1, z2, f0, f1, f2⟩ := Z.cells))
      refine bodyPost_ret (v := tokV (9) (⟨#[]⟩) (v)) (by simp [results, tokV, Tryz.results42, go_sem, z0, z1, z2]) rfl ⟨by rw [HE.out], sc_stores (by rw [HE.out]; exact S) hgb _ _ _, tz_stores M (Nat.le_refl _) _ _ _⟩
    · have HE : Hid (Tk.nbr l (k + n) = (8, ⟨#[]⟩, j)) := Lib.hid (by rw [HN.out, HB.out, if_neg (by rw [hb]; decide), if_neg h37])
      have n37 := Ru.eq_f h37
      clear HN HB hb h37
      generalize Tk.at' l j = y at *
      go_wp2_with (first | (go_at_call 71; (first | (with_reducible refine (P0.out _ S).mono ?_)); rintro e w1 ⟨rfl, S, m1⟩; have Z := Z.mv m1 hgb; have M := M.trans m1; clear m1; obtain ⟨z0, z1, z2, f0, f1, f2⟩ := Z.cells) | (go_at_call 43; (first | (with_reducible refine (N0.out _ S).mono ?_)); rintro e w1 ⟨rfl, S, m1⟩; have Z := Z.mv m1 hgb; have M := M.trans m1; clear m1; obtain ⟨z0, z1, z2, f0, f1, f2⟩ := Z.cells) | (go_at_call 17; (first | (with_reducible refine (C0.out _ S).mono ?_)); rintro e w1 ⟨rfl, S, m1⟩; have Z := Z.mv m1 hgb; have M := M.trans m1; clear m1; obtain ⟨z0, z1, z2, f0, f1, f2⟩ := Z.cells))
      refine bodyPost_ret (v := tokV (8) (⟨#[]⟩) (v)) (by simp [results, tokV, Tryz.results42, go_sem, z0, z1, z2]) rfl ⟨by rw [HE.out], sc_stores (by rw [HE.out]; exact S) hgb _ _ _, tz_stores M (Nat.le_refl _) _ _ _⟩
  · rw [hb] at N0
    have HE : Hid (Tk.nbr l (k + n) = (10, Tk.str (Tk.name l j).1, (Tk.name l j).2)) := Lib.hid (by rw [HN.out, HB.out, if_pos hb])
    have X0 : Hid (∀ w', Sc w' g A cap l pl j → Calls Tryz.prog 40 #[.pointer (some ⟨g, 0, none⟩)] w' (Stp g A cap l pl (Tk.name l j).2 (.string (Tk.str (Tk.name l j).1)) w')) := Lib.hid fun w' h => name_any HCC.out hm hjl h
    clear HN HB hb C0
    generalize Tk.name l j = nm at *
    obtain ⟨ds, j2⟩ := nm
    simp only at X0 HE
    go_wp2_with (first | (go_at_call 71; (first | (with_reducible refine (P0.out _ S).mono ?_)); rintro e w1 ⟨rfl, S, m1⟩; have Z := Z.mv m1 hgb; have M := M.trans m1; clear m1; obtain ⟨z0, z1, z2, f0, f1, f2⟩ := Z.cells) | (go_at_call 43; (first | (with_reducible refine (N0.out _ S).mono ?_)); rintro e w1 ⟨rfl, S, m1⟩; have Z := Z.mv m1 hgb; have M := M.trans m1; clear m1; obtain ⟨z0, z1, z2, f0, f1, f2⟩ := Z.cells) | (go_at_call 40; (first | (with_reducible refine (X0.out _ S).mono ?_)); rintro e w1 ⟨rfl, S, m1⟩; have Z := Z.mv m1 hgb; have M := M.trans m1; clear m1; obtain ⟨z0, z1, z2, f0, f1, f2⟩ := Z.cells))
    refine bodyPost_ret (v := tokV (10) (Tk.str ds) (v)) (by simp [results, tokV, Tryz.results42, go_sem, z0, z1, z2]) rfl ⟨by rw [HE.out], sc_stores (by rw [HE.out]; exact S) hgb _ _ _, tz_stores M (Nat.le_refl _) _ _ _⟩
end
end Go.Proofs.YtgcmjkimiakibaaGreatDoor
