/-
  Walks of single and of the scanner's word.
-/
import Derived.Test.YtllmjggejbdpcaaGreatDoorGao
import Derived.Test.YtllmjggejbdpcaaGreatDoorGad
import Derived.Test.YtllmjggejbdpcaaGreatDoorGac
import Derived.Deep.RegionHeld3
import Derived.Test.YtllmjggejbdpcaaGreatDoorGan
import Derived.OwnWalk
set_option maxHeartbeats 16000000
set_option maxRecDepth 100000
namespace Go.Proofs.YtllmjggejbdpcaaGreatDoor
open Go.RowKit
def Tk.sgl (c : Int) : Int × ByteArray :=
 if c = 58 then (14, ⟨#[]⟩) else if c = 59 then (15, ⟨#[]⟩) else if c = 44 then (16, ⟨#[]⟩) else (Tk.symK c, Tk.str [c])
def Single (c : Int) (w : World) (e : Ending) (w' : World) : Prop := e = .returned (tokV (Tk.sgl c).1 (Tk.sgl c).2 0) /\ Below w.heap.size w w'
theorem sgl_other {c : Int} (h1 : c ≠ 58) (h2 : c ≠ 59) (h3 : c ≠ 44) : Tk.sgl c = (Tk.symK c, Tk.str [c]) := by
 unfold Tk.sgl; rw [if_neg h1, if_neg h2, if_neg h3]
theorem one_bs (w : World) (c : Int) : Bs (w.alloc (.cells #[.int .i32 c] 21)) (w.alloc (.cells #[.int .i32 c] 21)).heap.size .i32 (some ⟨w.heap.size, 0, none⟩) [c] := fun _ =>
 ⟨w.heap.size, 0, rfl, by simp, fun j hj => by
  match j, hj with
  | 0, _ => simp [Ru.g, go_sem]⟩
theorem sgl_below {w w2 : World} (h : Below (w.heap.size + 1) (w.alloc zeroTok) w2) (x y z : Value) : Below w.heap.size w (((w2.setCell ⟨w.heap.size, 0, none⟩ x).setCell ⟨w.heap.size, 1, none⟩ y).setCell ⟨w.heap.size, 2, none⟩ z) := tok_below h x y z
theorem single_any (c : Int) (w : World) (h1 : 0 <= c) (h2 : c <= 1114111) :
 Calls Tryz.prog 97 #[.int .i32 c] w (Single c w) := by
 have CW : Hid (∀ (w' : World), Bs w' w'.heap.size .i32 (some ⟨w.heap.size + 1, 0, none⟩) [c] -> Calls Tryz.prog 161 #[.slice (some ⟨w.heap.size + 1, 0, none⟩) 1 1] w' (fun e w2 => ∃ (A : Option Addr) (cap : Nat), e = .returned (.slice A (Ru.wr [c]).length cap) /\ (Ru.wr [c]).length <= cap /\ Bs w2 w2.heap.size .u8 A (Ru.wr [c]) /\ Below w'.heap.size w' w2)) := Lib.hid fun w' hb =>
  (write_any [c] (some ⟨w.heap.size + 1, 0, none⟩) 1 w' (by simp) (by simp) (by intro x hx; rw [List.mem_singleton] at hx; subst hx; omega) hb).mono fun _ _ h => made_form h
 have B0 := one_bs (w.alloc (.cells #[.int .i64 0, .string ⟨#[]⟩, .int .i64 0] 70)) c
 rw [show (w.alloc (.cells #[.int .i64 0, .string ⟨#[]⟩, .int .i64 0] 70)).heap.size = w.heap.size + 1 by simp] at B0
 have HB0 := Lib.hid B0
 clear B0
 by_cases c40 : c = 40
 ·have HE : Hid (Tk.sgl c = (12, Tk.str [c])) := Lib.hid (by subst c40; rfl)
  subst c40
  generalize hs : Ru.wr [40] = r at *
  go_enter Tryz.func97, Tryz.ntmps97
  go_wp2_with (go_at_call 161; ((with_reducible refine (CW.out _ HB0.out).mono ?_); rintro e w1 ⟨A2, c2, rfl, k2, B2, b2⟩; have cv := conv_bytes c2 B2; have hb2 : Below (w.heap.size + 1) (w.alloc zeroTok) w1 := ((Below.refl _ _).alloc (by simp) _).trans (b2.mono (by simp)); obtain ⟨z0, z1, z2, f0, f1, f2⟩ := tok_cells hb2))
  refine bodyPost_ret (v := tokV 12 (strOfNums r) 0) (by simp [results, tokV, Tryz.results97, go_sem, z0, z1, z2]) rfl ⟨by rw [HE.out]; simp only [Tk.str, hs], sgl_below hb2 _ _ _⟩
 by_cases c91 : c = 91
 ·have HE : Hid (Tk.sgl c = (12, Tk.str [c])) := Lib.hid (by subst c91; rfl)
  subst c91
  generalize hs : Ru.wr [91] = r at *
  go_enter Tryz.func97, Tryz.ntmps97
  go_wp2_with (go_at_call 161; ((with_reducible refine (CW.out _ HB0.out).mono ?_); rintro e w1 ⟨A2, c2, rfl, k2, B2, b2⟩; have cv := conv_bytes c2 B2; have hb2 : Below (w.heap.size + 1) (w.alloc zeroTok) w1 := ((Below.refl _ _).alloc (by simp) _).trans (b2.mono (by simp)); obtain ⟨z0, z1, z2, f0, f1, f2⟩ := tok_cells hb2))
  refine bodyPost_ret (v := tokV 12 (strOfNums r) 0) (by simp [results, tokV, Tryz.results97, go_sem, z0, z1, z2]) rfl ⟨by rw [HE.out]; simp only [Tk.str, hs], sgl_below hb2 _ _ _⟩
 by_cases c123 : c = 123
 ·have HE : Hid (Tk.sgl c = (12, Tk.str [c])) := Lib.hid (by subst c123; rfl)
  subst c123
  generalize hs : Ru.wr [123] = r at *
  go_enter Tryz.func97, Tryz.ntmps97
  go_wp2_with (go_at_call 161; ((with_reducible refine (CW.out _ HB0.out).mono ?_); rintro e w1 ⟨A2, c2, rfl, k2, B2, b2⟩; have cv := conv_bytes c2 B2; have hb2 : Below (w.heap.size + 1) (w.alloc zeroTok) w1 := ((Below.refl _ _).alloc (by simp) _).trans (b2.mono (by simp)); obtain ⟨z0, z1, z2, f0, f1, f2⟩ := tok_cells hb2))
  refine bodyPost_ret (v := tokV 12 (strOfNums r) 0) (by simp [results, tokV, Tryz.results97, go_sem, z0, z1, z2]) rfl ⟨by rw [HE.out]; simp only [Tk.str, hs], sgl_below hb2 _ _ _⟩
 by_cases c41 : c = 41
 ·have HE : Hid (Tk.sgl c = (13, Tk.str [c])) := Lib.hid (by subst c41; rfl)
  subst c41
  generalize hs : Ru.wr [41] = r at *
  go_enter Tryz.func97, Tryz.ntmps97
  go_wp2_with (go_at_call 161; ((with_reducible refine (CW.out _ HB0.out).mono ?_); rintro e w1 ⟨A2, c2, rfl, k2, B2, b2⟩; have cv := conv_bytes c2 B2; have hb2 : Below (w.heap.size + 1) (w.alloc zeroTok) w1 := ((Below.refl _ _).alloc (by simp) _).trans (b2.mono (by simp)); obtain ⟨z0, z1, z2, f0, f1, f2⟩ := tok_cells hb2))
  refine bodyPost_ret (v := tokV 13 (strOfNums r) 0) (by simp [results, tokV, Tryz.results97, go_sem, z0, z1, z2]) rfl ⟨by rw [HE.out]; simp only [Tk.str, hs], sgl_below hb2 _ _ _⟩
 by_cases c93 : c = 93
 ·have HE : Hid (Tk.sgl c = (13, Tk.str [c])) := Lib.hid (by subst c93; rfl)
  subst c93
  generalize hs : Ru.wr [93] = r at *
  go_enter Tryz.func97, Tryz.ntmps97
  go_wp2_with (go_at_call 161; ((with_reducible refine (CW.out _ HB0.out).mono ?_); rintro e w1 ⟨A2, c2, rfl, k2, B2, b2⟩; have cv := conv_bytes c2 B2; have hb2 : Below (w.heap.size + 1) (w.alloc zeroTok) w1 := ((Below.refl _ _).alloc (by simp) _).trans (b2.mono (by simp)); obtain ⟨z0, z1, z2, f0, f1, f2⟩ := tok_cells hb2))
  refine bodyPost_ret (v := tokV 13 (strOfNums r) 0) (by simp [results, tokV, Tryz.results97, go_sem, z0, z1, z2]) rfl ⟨by rw [HE.out]; simp only [Tk.str, hs], sgl_below hb2 _ _ _⟩
 by_cases c125 : c = 125
 ·have HE : Hid (Tk.sgl c = (13, Tk.str [c])) := Lib.hid (by subst c125; rfl)
  subst c125
  generalize hs : Ru.wr [125] = r at *
  go_enter Tryz.func97, Tryz.ntmps97
  go_wp2_with (go_at_call 161; ((with_reducible refine (CW.out _ HB0.out).mono ?_); rintro e w1 ⟨A2, c2, rfl, k2, B2, b2⟩; have cv := conv_bytes c2 B2; have hb2 : Below (w.heap.size + 1) (w.alloc zeroTok) w1 := ((Below.refl _ _).alloc (by simp) _).trans (b2.mono (by simp)); obtain ⟨z0, z1, z2, f0, f1, f2⟩ := tok_cells hb2))
  refine bodyPost_ret (v := tokV 13 (strOfNums r) 0) (by simp [results, tokV, Tryz.results97, go_sem, z0, z1, z2]) rfl ⟨by rw [HE.out]; simp only [Tk.str, hs], sgl_below hb2 _ _ _⟩
 by_cases c58 : c = 58
 ·have HE : Hid (Tk.sgl c = (14, ⟨#[]⟩)) := Lib.hid (by subst c58; rfl)
  subst c58
  generalize hs : Ru.wr [58] = r at *
  go_enter Tryz.func97, Tryz.ntmps97
  go_wp2_with (go_at_call 161; ((with_reducible refine (CW.out _ HB0.out).mono ?_); rintro e w1 ⟨A2, c2, rfl, k2, B2, b2⟩; have cv := conv_bytes c2 B2; have hb2 : Below (w.heap.size + 1) (w.alloc zeroTok) w1 := ((Below.refl _ _).alloc (by simp) _).trans (b2.mono (by simp)); obtain ⟨z0, z1, z2, f0, f1, f2⟩ := tok_cells hb2))
  refine bodyPost_ret (v := tokV 14 (⟨#[]⟩) 0) (by simp [results, tokV, Tryz.results97, go_sem, z0, z1, z2]) rfl ⟨by rw [HE.out], sgl_below hb2 _ _ _⟩
 by_cases c59 : c = 59
 ·have HE : Hid (Tk.sgl c = (15, ⟨#[]⟩)) := Lib.hid (by subst c59; rfl)
  subst c59
  generalize hs : Ru.wr [59] = r at *
  go_enter Tryz.func97, Tryz.ntmps97
  go_wp2_with (go_at_call 161; ((with_reducible refine (CW.out _ HB0.out).mono ?_); rintro e w1 ⟨A2, c2, rfl, k2, B2, b2⟩; have cv := conv_bytes c2 B2; have hb2 : Below (w.heap.size + 1) (w.alloc zeroTok) w1 := ((Below.refl _ _).alloc (by simp) _).trans (b2.mono (by simp)); obtain ⟨z0, z1, z2, f0, f1, f2⟩ := tok_cells hb2))
  refine bodyPost_ret (v := tokV 15 (⟨#[]⟩) 0) (by simp [results, tokV, Tryz.results97, go_sem, z0, z1, z2]) rfl ⟨by rw [HE.out], sgl_below hb2 _ _ _⟩
 by_cases c44 : c = 44
 ·have HE : Hid (Tk.sgl c = (16, ⟨#[]⟩)) := Lib.hid (by subst c44; rfl)
  subst c44
  generalize hs : Ru.wr [44] = r at *
  go_enter Tryz.func97, Tryz.ntmps97
  go_wp2_with (go_at_call 161; ((with_reducible refine (CW.out _ HB0.out).mono ?_); rintro e w1 ⟨A2, c2, rfl, k2, B2, b2⟩; have cv := conv_bytes c2 B2; have hb2 : Below (w.heap.size + 1) (w.alloc zeroTok) w1 := ((Below.refl _ _).alloc (by simp) _).trans (b2.mono (by simp)); obtain ⟨z0, z1, z2, f0, f1, f2⟩ := tok_cells hb2))
  refine bodyPost_ret (v := tokV 16 (⟨#[]⟩) 0) (by simp [results, tokV, Tryz.results97, go_sem, z0, z1, z2]) rfl ⟨by rw [HE.out], sgl_below hb2 _ _ _⟩
 have HE : Hid (Tk.sgl c = (11, Tk.str [c])) := Lib.hid (by rw [sgl_other c58 c59 c44]; unfold Tk.symK; rw [if_neg (by omega), if_neg (by omega)])
 have n40 := Ru.eq_f c40
 have n91 := Ru.eq_f c91
 have n123 := Ru.eq_f c123
 have n41 := Ru.eq_f c41
 have n93 := Ru.eq_f c93
 have n125 := Ru.eq_f c125
 have n58 := Ru.eq_f c58
 have n59 := Ru.eq_f c59
 have n44 := Ru.eq_f c44
 clear c40 c91 c123 c41 c93 c125 c58 c59 c44
 generalize hs : Ru.wr [c] = r at *
 go_enter Tryz.func97, Tryz.ntmps97
 go_wp2_with (go_at_call 161; ((with_reducible refine (CW.out _ HB0.out).mono ?_); rintro e w1 ⟨A2, c2, rfl, k2, B2, b2⟩; have cv := conv_bytes c2 B2; have hb2 : Below (w.heap.size + 1) (w.alloc zeroTok) w1 := ((Below.refl _ _).alloc (by simp) _).trans (b2.mono (by simp)); obtain ⟨z0, z1, z2, f0, f1, f2⟩ := tok_cells hb2))
 refine bodyPost_ret (v := tokV 11 (strOfNums r) 0) (by simp [results, tokV, Tryz.results97, go_sem, z0, z1, z2]) rfl ⟨by rw [HE.out]; simp only [Tk.str, hs], sgl_below hb2 _ _ _⟩
section
variable {w : World} {g cap k : Nat} {A : Option Addr} {l : List Int} {pl : ByteArray}
def Tk.wrd (l : List Int) (k : Nat) : Int × Nat := if Tk.at' l (Tk.name l k).2 = 40 then (3, (Tk.name l k).2 + 1) else (2, (Tk.name l k).2)
theorem word_any (hC : Tk.Chr l) (hm : l.length <= 65000) (hk : k <= l.length) (S : Sc w g A cap l pl k) :
 Calls Tryz.prog 96 #[.pointer (some ⟨g, 0, none⟩)] w (Stp g A cap l pl (Tk.wrd l k).2 (tokV (Tk.wrd l k).1 (Tk.str (Tk.name l k).1) 0) w) := by
 have hgb := S.lt
 have S := S.alloc (.cells #[.int .i64 0, .string ⟨#[]⟩, .int .i64 0] 70)
 have M := (Mv.refl g w).alloc (.cells #[.int .i64 0, .string ⟨#[]⟩, .int .i64 0] 70)
 have Z := Tz.new w
 have N0 : Hid (∀ w', Sc w' g A cap l pl k -> Calls Tryz.prog 92 #[.pointer (some ⟨g, 0, none⟩)] w' (Stp g A cap l pl (Tk.name l k).2 (.string (Tk.str (Tk.name l k).1)) w')) := Lib.hid fun w' h => name_any hC hm hk h
 have hn := Tk.name_le l _ k (Nat.le_refl _) hk
 have HWR : Hid (Tk.wrd l k = if Tk.at' l (Tk.name l k).2 = 40 then (3, (Tk.name l k).2 + 1) else (2, (Tk.name l k).2)) := Lib.hid rfl
 clear hC
 generalize Tk.name l k = nm at *
 obtain ⟨ds, j⟩ := nm
 simp only at N0 hn HWR
 have C0 : Hid (∀ w', Sc w' g A cap l pl j -> Calls Tryz.prog 49 #[.pointer (some ⟨g, 0, none⟩), .int .i64 0] w' (Stp g A cap l pl j (.int .i32 (Tk.at' l j)) w')) := Lib.hid fun w' h => peek_any 0 0 rfl (by omega) (by omega) (by omega) h
 by_cases h40 : Tk.at' l j = 40
 ·have hj : j < l.length := Tk.at_lt (fun e => by rw [e] at h40; exact absurd h40 (by decide))
  have T0 : Hid (∀ w', Sc w' g A cap l pl j -> Calls Tryz.prog 91 #[.pointer (some ⟨g, 0, none⟩)] w' (Stp g A cap l pl (j + 1) (.int .i32 (Tk.at' l j)) w')) := Lib.hid fun w' h => take_in (by omega) hj h
  have HE : Hid (Tk.wrd l k = (3, j + 1)) := Lib.hid (by rw [HWR.out, if_pos h40])
  rw [h40] at C0
  clear h40 HWR
  generalize Tk.at' l j = y at *
  go_enter Tryz.func96, Tryz.ntmps96
  go_wp2_with (first | (go_at_call 92; (first | (with_reducible refine (N0.out _ S).mono ?_)); rintro e w1 ⟨rfl, S, m1⟩; have Z := Z.mv m1 hgb; have M := M.trans m1; clear m1; obtain ⟨z0, z1, z2, f0, f1, f2⟩ := Z.cells) | (go_at_call 49; (first | (with_reducible refine (C0.out _ S).mono ?_)); rintro e w1 ⟨rfl, S, m1⟩; have Z := Z.mv m1 hgb; have M := M.trans m1; clear m1; obtain ⟨z0, z1, z2, f0, f1, f2⟩ := Z.cells) | (go_at_call 91; (first | (with_reducible refine (T0.out _ S).mono ?_)); rintro e w1 ⟨rfl, S, m1⟩; have Z := Z.mv m1 hgb; have M := M.trans m1; clear m1; obtain ⟨z0, z1, z2, f0, f1, f2⟩ := Z.cells))
  refine bodyPost_ret (v := tokV (3) (Tk.str ds) (0)) (by simp [results, tokV, Tryz.results96, go_sem, z0, z1, z2]) rfl ⟨by rw [HE.out], sc_stores (by rw [HE.out]; exact S) hgb _ _ _, tz_stores M (Nat.le_refl _) _ _ _⟩
 ·have n40 := Ru.eq_f h40
  have HE : Hid (Tk.wrd l k = (2, j)) := Lib.hid (by rw [HWR.out, if_neg h40])
  clear h40 HWR
  generalize Tk.at' l j = y at *
  go_enter Tryz.func96, Tryz.ntmps96
  go_wp2_with (first | (go_at_call 92; (first | (with_reducible refine (N0.out _ S).mono ?_)); rintro e w1 ⟨rfl, S, m1⟩; have Z := Z.mv m1 hgb; have M := M.trans m1; clear m1; obtain ⟨z0, z1, z2, f0, f1, f2⟩ := Z.cells) | (go_at_call 49; (first | (with_reducible refine (C0.out _ S).mono ?_)); rintro e w1 ⟨rfl, S, m1⟩; have Z := Z.mv m1 hgb; have M := M.trans m1; clear m1; obtain ⟨z0, z1, z2, f0, f1, f2⟩ := Z.cells))
  refine bodyPost_ret (v := tokV (2) (Tk.str ds) (0)) (by simp [results, tokV, Tryz.results96, go_sem, z0, z1, z2]) rfl ⟨by rw [HE.out], sc_stores (by rw [HE.out]; exact S) hgb _ _ _, tz_stores M (Nat.le_refl _) _ _ _⟩
theorem decimal_any (hm : l.length <= 65000) (hk : k <= l.length) (hp : pl.data.toList = l.map Tk.p8) (S : Sc w g A cap l pl k) :
 Calls Tryz.prog 93 #[.pointer (some ⟨g, 0, none⟩)] w (Stp g A cap l pl k (.int .i64 (Tk.nlen l k : Nat)) w) := by
 have hgb := S.lt
 have c1 := S.c1
 have c2 := S.c2
 have hsz : pl.size = l.length := by
  have := congrArg List.length hp
  rw [List.length_map, <- Lib.size_eq] at this
  exact this
 have e2 : (k : Int) <= (pl.size : Int) := by omega
 have e3 : (0 : Int) <= (k : Int) := by omega
 have CL : Hid (∀ w', Calls Tryz.prog 158 #[.string (pl.extract k pl.size)] w' fun e w2 => e = .returned (.int .i64 (Tk.nlen l k : Nat)) /\ Below w'.heap.size w' w2) := Lib.hid fun w' => by
  have h := length_any (pl.extract k pl.size) w' (by unfold maxLen; simp; omega)
  rw [Lib.extract_to_end, hp, Tk.plain_len] at h
  exact h
 have HS := Lib.hid S
 clear S hp hsz
 generalize Tk.nlen l k = n at *
 go_enter Tryz.func93, Tryz.ntmps93
 go_upto_region 1 with fail
 go_region_held3 (fun w' => w'.cell? ⟨g, 1, none⟩ = some (.int .i64 k) /\ w'.cell? ⟨g, 2, none⟩ = some (.string pl))
  (first | go_keep | (go_split_ands; exact ⟨(hb1.cell (p := ⟨g, 1, none⟩) hgb).trans (by assumption), (hb1.cell (p := ⟨g, 2, none⟩) hgb).trans (by assumption)⟩))
  (first | (go_at_call 158; refine (CL.out _).mono ?_; rintro e w2 ⟨rfl, hb1⟩))
 have hbx : Below w.heap.size w w2 := (Below.refl _ _).drew.trans hb1
 go_wp2_with fail
 go_ret
 exact ⟨rfl, HS.out.below hbx hgb, (Mv.refl _ _).then_ hbx (Nat.le_refl _)⟩
def Tk.nbr (l : List Int) (k : Nat) : Int × ByteArray × Nat :=
 if Tk.begs l k = true then (10, Tk.str (Tk.name l k).1, (Tk.name l k).2) else if Tk.at' l k = 37 then (9, ⟨#[]⟩, k + 1) else (8, ⟨#[]⟩, k)
theorem number_any (hC : Tk.Chr l) (hm : l.length <= 65000) (hk : k <= l.length) (hp : pl.data.toList = l.map Tk.p8) (h0 : 0 < Tk.nlen l k) (S : Sc w g A cap l pl k) :
 Calls Tryz.prog 94 #[.pointer (some ⟨g, 0, none⟩)] w (Stp g A cap l pl (Tk.nbr l (k + Tk.nlen l k)).2.2 (tokV (Tk.nbr l (k + Tk.nlen l k)).1 (Tk.nbr l (k + Tk.nlen l k)).2.1 (Tk.nval l k)) w) := by
 have hgb := S.lt
 have S := S.alloc (.cells #[.int .i64 0, .string ⟨#[]⟩, .int .i64 0] 70)
 have M := (Mv.refl g w).alloc (.cells #[.int .i64 0, .string ⟨#[]⟩, .int .i64 0] 70)
 have Z := Tz.new w
 have D0 : Hid (∀ w', Sc w' g A cap l pl k -> Calls Tryz.prog 93 #[.pointer (some ⟨g, 0, none⟩)] w' (Stp g A cap l pl k (.int .i64 (Tk.nlen l k : Nat)) w')) := Lib.hid fun w' h => decimal_any hm hk hp h
 have hsz : pl.size = l.length := by
  have := congrArg List.length hp
  rw [List.length_map, <- Lib.size_eq] at this
  exact this
 have HCC := Lib.hid hC
 have CP : Hid (∀ w', Calls Tryz.prog 159 #[.string (pl.extract k (k + Tk.nlen l k))] w' fun e w2 => e = .returned (.tuple #[.int .i64 (Tk.nval l k), .bool true]) /\ Below w'.heap.size w' w2) := Lib.hid fun w' => by
  have hx : (pl.extract k (k + Tk.nlen l k)).data.toList = ((l.map Tk.p8).drop k).take (Tk.nlen l k) := by
   rw [Lib.extract_data, hp, show k + Tk.nlen l k - k = Tk.nlen l k by omega]
  have hd : Fx.isDec (((l.map Tk.p8).drop k).take (Tk.nlen l k)) = true := by
   have := Fx.begins_yes (l := (l.map Tk.p8).drop k) (by rw [Tk.plain_len]; exact h0)
   rwa [Tk.plain_len] at this
  have hv : Tk.nval l k = Fx.num (((l.map Tk.p8).drop k).take (Tk.nlen l k)) := by
   rw [<- Tk.plain_val]; unfold Tk.pv; rw [if_pos hd]
  have h := parse_yes (pl.extract k (k + Tk.nlen l k)) w' (by simp; omega) (by rw [hx]; exact hd)
  rw [hx, <- hv] at h
  exact h
 have hn := Tk.nlen_le l k hk
 generalize Tk.nval l k = v at *
 generalize Tk.nlen l k = n at *
 have e2 : (k : Int) <= ((k : Int) + (n : Int)) := by omega
 have e3 : ((k : Int) + (n : Int)) <= (pl.size : Int) := by omega
 have e1 : IntKind.i64.wrap ((k : Int) + (n : Int)) = (k : Int) + (n : Int) := IntWalk.i64_in _ (by omega)
 have e4 : (0 : Int) <= (k : Int) + (n : Int) := by omega
 have e5 : ((k : Int) + (n : Int)).toNat = k + n := by omega
 have P0 : Hid (∀ w', Sc w' g A cap l pl k -> Calls Tryz.prog 155 #[.pointer (some ⟨g, 0, none⟩), .int .i64 n] w' (Stp g A cap l pl (k + n) (.tuple #[]) w')) := Lib.hid fun w' h => by have := pass_any _ n rfl (by omega) hk (by omega) h; rwa [Nat.min_eq_left (by omega)] at this
 clear hp hsz hC h0
 go_enter Tryz.func94, Tryz.ntmps94
 go_upto_region 2 with (go_at_call 93; (first | (with_reducible refine (D0.out _ S).mono ?_)); rintro e w1 ⟨rfl, S, m1⟩; have Z := Z.mv m1 hgb; have M := M.trans m1; clear m1; obtain ⟨z0, z1, z2, f0, f1, f2⟩ := Z.cells)
 have c1 := S.c1
 have c2 := S.c2
 go_region_held3 (fun w' => w'.cell? ⟨g, 1, none⟩ = some (.int .i64 k) /\ w'.cell? ⟨g, 2, none⟩ = some (.string pl))
  (first | go_keep | (go_split_ands; exact ⟨(hb1.cell (p := ⟨g, 1, none⟩) S.lt).trans (by assumption), (hb1.cell (p := ⟨g, 2, none⟩) S.lt).trans (by assumption)⟩))
  (first | (go_at_call 159; refine (CP.out _).mono ?_; rintro e w2 ⟨rfl, hb1⟩))
 have hbx : Below w1.heap.size w1 w2 := (Below.refl _ _).drew.trans hb1
 have Z := Z.below hbx (lt_of_block Z)
 have M := M.then_ hbx M.size
 have S := S.below hbx S.lt
 clear hbx hb1 c1 c2 D0 CP e1 e2 e3 e4 e5
 have HJ : Hid (∀ jj, jj = k + n -> Tk.nbr l (k + n) = Tk.nbr l jj) := Lib.hid (by rintro jj rfl; rfl)
 obtain ⟨j, hj⟩ : ∃ j, j = k + n := ⟨_, rfl⟩
 have HN := Lib.hid (HJ.out j hj)
 have hjl : j <= l.length := by omega
 rw [<- hj] at P0
 clear HJ hj
 have N0 : Hid (∀ w', Sc w' g A cap l pl j -> Calls Tryz.prog 95 #[.pointer (some ⟨g, 0, none⟩), .int .i64 0] w' (Stp g A cap l pl j (.bool (Tk.begs l j)) w')) := Lib.hid fun w' h => names_any 0 0 rfl HCC.out.pos (by omega) hjl (by omega) h
 have C0 : Hid (∀ w', Sc w' g A cap l pl j -> Calls Tryz.prog 49 #[.pointer (some ⟨g, 0, none⟩), .int .i64 0] w' (Stp g A cap l pl j (.int .i32 (Tk.at' l j)) w')) := Lib.hid fun w' h => peek_any 0 0 rfl (by omega) hjl (by omega) h
 have HB : Hid (Tk.nbr l j = if Tk.begs l j = true then (10, Tk.str (Tk.name l j).1, (Tk.name l j).2) else if Tk.at' l j = 37 then (9, ⟨#[]⟩, j + 1) else (8, ⟨#[]⟩, j)) := Lib.hid rfl
 cases hb : Tk.begs l j
 ·rw [hb] at N0
  by_cases h37 : Tk.at' l j = 37
  ·have hjlt : j < l.length := Tk.at_lt (fun e => by rw [e] at h37; exact absurd h37 (by decide))
   have T0 : Hid (∀ w', Sc w' g A cap l pl j -> Calls Tryz.prog 91 #[.pointer (some ⟨g, 0, none⟩)] w' (Stp g A cap l pl (j + 1) (.int .i32 (Tk.at' l j)) w')) := Lib.hid fun w' h => take_in (by omega) hjlt h
   have HE : Hid (Tk.nbr l (k + n) = (9, ⟨#[]⟩, j + 1)) := Lib.hid (by rw [HN.out, HB.out, if_neg (by rw [hb]; decide), if_pos h37])
   rw [h37] at C0
   clear HN HB hb h37
   generalize Tk.at' l j = y at *
   go_wp2_with (first | (go_at_call 155; (first | (with_reducible refine (P0.out _ S).mono ?_)); rintro e w1 ⟨rfl, S, m1⟩; have Z := Z.mv m1 hgb; have M := M.trans m1; clear m1; obtain ⟨z0, z1, z2, f0, f1, f2⟩ := Z.cells) | (go_at_call 95; (first | (with_reducible refine (N0.out _ S).mono ?_)); rintro e w1 ⟨rfl, S, m1⟩; have Z := Z.mv m1 hgb; have M := M.trans m1; clear m1; obtain ⟨z0, z1, z2, f0, f1, f2⟩ := Z.cells) | (go_at_call 49; (first | (with_reducible refine (C0.out _ S).mono ?_)); rintro e w1 ⟨rfl, S, m1⟩; have Z := Z.mv m1 hgb; have M := M.trans m1; clear m1; obtain ⟨z0, z1, z2, f0, f1, f2⟩ := Z.cells) | (go_at_call 91; (first | (with_reducible refine (T0.out _ S).mono ?_)); rintro e w1 ⟨rfl, S, m1⟩; have Z := Z.mv m1 hgb; have M := M.trans m1; clear m1; obtain ⟨z0, z1, z2, f0, f1, f2⟩ := Z.cells))
   refine bodyPost_ret (v := tokV (9) (⟨#[]⟩) (v)) (by simp [results, tokV, Tryz.results94, go_sem, z0, z1, z2]) rfl ⟨by rw [HE.out], sc_stores (by rw [HE.out]; exact S) hgb _ _ _, tz_stores M (Nat.le_refl _) _ _ _⟩
  ·have HE : Hid (Tk.nbr l (k + n) = (8, ⟨#[]⟩, j)) := Lib.hid (by rw [HN.out, HB.out, if_neg (by rw [hb]; decide), if_neg h37])
   have n37 := Ru.eq_f h37
   clear HN HB hb h37
   generalize Tk.at' l j = y at *
   go_wp2_with (first | (go_at_call 155; (first | (with_reducible refine (P0.out _ S).mono ?_)); rintro e w1 ⟨rfl, S, m1⟩; have Z := Z.mv m1 hgb; have M := M.trans m1; clear m1; obtain ⟨z0, z1, z2, f0, f1, f2⟩ := Z.cells) | (go_at_call 95; (first | (with_reducible refine (N0.out _ S).mono ?_)); rintro e w1 ⟨rfl, S, m1⟩; have Z := Z.mv m1 hgb; have M := M.trans m1; clear m1; obtain ⟨z0, z1, z2, f0, f1, f2⟩ := Z.cells) | (go_at_call 49; (first | (with_reducible refine (C0.out _ S).mono ?_)); rintro e w1 ⟨rfl, S, m1⟩; have Z := Z.mv m1 hgb; have M := M.trans m1; clear m1; obtain ⟨z0, z1, z2, f0, f1, f2⟩ := Z.cells))
   refine bodyPost_ret (v := tokV (8) (⟨#[]⟩) (v)) (by simp [results, tokV, Tryz.results94, go_sem, z0, z1, z2]) rfl ⟨by rw [HE.out], sc_stores (by rw [HE.out]; exact S) hgb _ _ _, tz_stores M (Nat.le_refl _) _ _ _⟩
 ·rw [hb] at N0
  have HE : Hid (Tk.nbr l (k + n) = (10, Tk.str (Tk.name l j).1, (Tk.name l j).2)) := Lib.hid (by rw [HN.out, HB.out, if_pos hb])
  have X0 : Hid (∀ w', Sc w' g A cap l pl j -> Calls Tryz.prog 92 #[.pointer (some ⟨g, 0, none⟩)] w' (Stp g A cap l pl (Tk.name l j).2 (.string (Tk.str (Tk.name l j).1)) w')) := Lib.hid fun w' h => name_any HCC.out hm hjl h
  clear HN HB hb C0
  generalize Tk.name l j = nm at *
  obtain ⟨ds, j2⟩ := nm
  simp only at X0 HE
  go_wp2_with (first | (go_at_call 155; (first | (with_reducible refine (P0.out _ S).mono ?_)); rintro e w1 ⟨rfl, S, m1⟩; have Z := Z.mv m1 hgb; have M := M.trans m1; clear m1; obtain ⟨z0, z1, z2, f0, f1, f2⟩ := Z.cells) | (go_at_call 95; (first | (with_reducible refine (N0.out _ S).mono ?_)); rintro e w1 ⟨rfl, S, m1⟩; have Z := Z.mv m1 hgb; have M := M.trans m1; clear m1; obtain ⟨z0, z1, z2, f0, f1, f2⟩ := Z.cells) | (go_at_call 92; (first | (with_reducible refine (X0.out _ S).mono ?_)); rintro e w1 ⟨rfl, S, m1⟩; have Z := Z.mv m1 hgb; have M := M.trans m1; clear m1; obtain ⟨z0, z1, z2, f0, f1, f2⟩ := Z.cells))
  refine bodyPost_ret (v := tokV (10) (Tk.str ds) (v)) (by simp [results, tokV, Tryz.results94, go_sem, z0, z1, z2]) rfl ⟨by rw [HE.out], sc_stores (by rw [HE.out]; exact S) hgb _ _ _, tz_stores M (Nat.le_refl _) _ _ _⟩
end
section
variable {w : World} {g cap k : Nat} {A : Option Addr} {l : List Int} {pl : ByteArray}
def GapV (b : Bool) : Value := .tuple #[tokV (if b = true then 1 else 0) ⟨#[]⟩ 0, .bool b]
theorem next_gap (hC : Tk.Chr l) (hm : l.length <= 65000) (hk : k <= l.length) (hg : Ru.whiB (Tk.at' l k) = true ∨ Tk.opn l k = true) (S : Sc w g A cap l pl k) :
 Calls Tryz.prog 50 #[.pointer (some ⟨g, 0, none⟩)] w (Stp g A cap l pl (Tk.sp l k false).1 (GapV (Tk.sp l k false).2) w) := by
 have hgb := S.lt
 have S := S.alloc (.cells #[.int .i64 0, .string ⟨#[]⟩, .int .i64 0] 70)
 have M := (Mv.refl g w).alloc (.cells #[.int .i64 0, .string ⟨#[]⟩, .int .i64 0] 70)
 have Z := Tz.new w
 have C0 : Hid (∀ w', Sc w' g A cap l pl k -> Calls Tryz.prog 49 #[.pointer (some ⟨g, 0, none⟩), .int .i64 0] w' (Stp g A cap l pl k (.int .i32 (Tk.at' l k)) w')) := Lib.hid fun w' h => peek_any 0 0 rfl (by omega) hk (by omega) h
 have O0 : Hid (∀ w', Sc w' g A cap l pl k -> Calls Tryz.prog 86 #[.pointer (some ⟨g, 0, none⟩)] w' (Stp g A cap l pl k (.bool (Tk.opn l k)) w')) := Lib.hid fun w' h => opens_any (by omega) hk h
 have P0 : Hid (∀ w', Sc w' g A cap l pl k -> Calls Tryz.prog 87 #[.pointer (some ⟨g, 0, none⟩)] w' (Stp g A cap l pl (Tk.sp l k false).1 (.bool (Tk.sp l k false).2) w')) := Lib.hid fun w' h => passGap_any hC.pos (by omega) hk h
 clear hC
 generalize Tk.at' l k = c at *
 generalize Tk.opn l k = o at *
 obtain ⟨s, HE⟩ : ∃ s, Hid (Tk.sp l k false = s) := ⟨_, Lib.hid rfl⟩
 rw [HE.out] at P0
 obtain ⟨j, b⟩ := s
 simp only at P0
 cases hw : Ru.whiB c
 ·have ho : o = true := by
   rcases hg with hg | hg
   ·rw [hw] at hg; cases hg
   ·exact hg
  subst ho
  clear hg
  cases b
  ·go_enter Tryz.func50, Tryz.ntmps50
   go_wp2_with (first | (go_at_call 49; (first | (with_reducible refine (C0.out _ S).mono ?_)); rintro e w1 ⟨rfl, S, m1⟩; have Z := Z.mv m1 hgb; have M := M.trans m1; clear m1; obtain ⟨z0, z1, z2, f0, f1, f2⟩ := Z.cells) | (go_at_call 85; ((with_reducible refine (white_any _ _).mono ?_); rintro e w1 ⟨rfl, rfl⟩)) | (go_at_call 86; (first | (with_reducible refine (O0.out _ S).mono ?_)); rintro e w1 ⟨rfl, S, m1⟩; have Z := Z.mv m1 hgb; have M := M.trans m1; clear m1; obtain ⟨z0, z1, z2, f0, f1, f2⟩ := Z.cells) | (go_at_call 87; (first | (with_reducible refine (P0.out _ S).mono ?_)); rintro e w1 ⟨rfl, S, m1⟩; have Z := Z.mv m1 hgb; have M := M.trans m1; clear m1; obtain ⟨z0, z1, z2, f0, f1, f2⟩ := Z.cells))
   refine bodyPost_ret (v := .tuple #[tokV (0) (⟨#[]⟩) (0), .bool false]) (by simp [results, tokV, Tryz.results50, go_sem, z0, z1, z2]) rfl ⟨by rw [HE.out]; rfl, sc_stores (by rw [HE.out]; exact S) hgb _ _ _, tz_stores M (Nat.le_refl _) _ _ _⟩
  ·go_enter Tryz.func50, Tryz.ntmps50
   go_wp2_with (first | (go_at_call 49; (first | (with_reducible refine (C0.out _ S).mono ?_)); rintro e w1 ⟨rfl, S, m1⟩; have Z := Z.mv m1 hgb; have M := M.trans m1; clear m1; obtain ⟨z0, z1, z2, f0, f1, f2⟩ := Z.cells) | (go_at_call 85; ((with_reducible refine (white_any _ _).mono ?_); rintro e w1 ⟨rfl, rfl⟩)) | (go_at_call 86; (first | (with_reducible refine (O0.out _ S).mono ?_)); rintro e w1 ⟨rfl, S, m1⟩; have Z := Z.mv m1 hgb; have M := M.trans m1; clear m1; obtain ⟨z0, z1, z2, f0, f1, f2⟩ := Z.cells) | (go_at_call 87; (first | (with_reducible refine (P0.out _ S).mono ?_)); rintro e w1 ⟨rfl, S, m1⟩; have Z := Z.mv m1 hgb; have M := M.trans m1; clear m1; obtain ⟨z0, z1, z2, f0, f1, f2⟩ := Z.cells))
   refine bodyPost_ret (v := .tuple #[tokV (1) (⟨#[]⟩) (0), .bool true]) (by simp [results, tokV, Tryz.results50, go_sem, z0, z1, z2]) rfl ⟨by rw [HE.out]; rfl, sc_stores (by rw [HE.out]; exact S) hgb _ _ _, tz_stores M (Nat.le_refl _) _ _ _⟩
 ·clear hg
  cases b
  ·go_enter Tryz.func50, Tryz.ntmps50
   go_wp2_with (first | (go_at_call 49; (first | (with_reducible refine (C0.out _ S).mono ?_)); rintro e w1 ⟨rfl, S, m1⟩; have Z := Z.mv m1 hgb; have M := M.trans m1; clear m1; obtain ⟨z0, z1, z2, f0, f1, f2⟩ := Z.cells) | (go_at_call 85; ((with_reducible refine (white_any _ _).mono ?_); rintro e w1 ⟨rfl, rfl⟩)) | (go_at_call 86; (first | (with_reducible refine (O0.out _ S).mono ?_)); rintro e w1 ⟨rfl, S, m1⟩; have Z := Z.mv m1 hgb; have M := M.trans m1; clear m1; obtain ⟨z0, z1, z2, f0, f1, f2⟩ := Z.cells) | (go_at_call 87; (first | (with_reducible refine (P0.out _ S).mono ?_)); rintro e w1 ⟨rfl, S, m1⟩; have Z := Z.mv m1 hgb; have M := M.trans m1; clear m1; obtain ⟨z0, z1, z2, f0, f1, f2⟩ := Z.cells))
   refine bodyPost_ret (v := .tuple #[tokV (0) (⟨#[]⟩) (0), .bool false]) (by simp [results, tokV, Tryz.results50, go_sem, z0, z1, z2]) rfl ⟨by rw [HE.out]; rfl, sc_stores (by rw [HE.out]; exact S) hgb _ _ _, tz_stores M (Nat.le_refl _) _ _ _⟩
  ·go_enter Tryz.func50, Tryz.ntmps50
   go_wp2_with (first | (go_at_call 49; (first | (with_reducible refine (C0.out _ S).mono ?_)); rintro e w1 ⟨rfl, S, m1⟩; have Z := Z.mv m1 hgb; have M := M.trans m1; clear m1; obtain ⟨z0, z1, z2, f0, f1, f2⟩ := Z.cells) | (go_at_call 85; ((with_reducible refine (white_any _ _).mono ?_); rintro e w1 ⟨rfl, rfl⟩)) | (go_at_call 86; (first | (with_reducible refine (O0.out _ S).mono ?_)); rintro e w1 ⟨rfl, S, m1⟩; have Z := Z.mv m1 hgb; have M := M.trans m1; clear m1; obtain ⟨z0, z1, z2, f0, f1, f2⟩ := Z.cells) | (go_at_call 87; (first | (with_reducible refine (P0.out _ S).mono ?_)); rintro e w1 ⟨rfl, S, m1⟩; have Z := Z.mv m1 hgb; have M := M.trans m1; clear m1; obtain ⟨z0, z1, z2, f0, f1, f2⟩ := Z.cells))
   refine bodyPost_ret (v := .tuple #[tokV (1) (⟨#[]⟩) (0), .bool true]) (by simp [results, tokV, Tryz.results50, go_sem, z0, z1, z2]) rfl ⟨by rw [HE.out]; rfl, sc_stores (by rw [HE.out]; exact S) hgb _ _ _, tz_stores M (Nat.le_refl _) _ _ _⟩
end
def NxtV (r : Int × ByteArray × Int × Nat) : Value := .tuple #[tokV r.1 r.2.1 r.2.2.1, .bool true]
theorem Tk.nxt_sgl {l : List Int} {k : Nat} (h : Tk.Past l k) (h64 : Ru.g l k = 64 -> Tk.begs l (k + 1) = false) (hb : Tk.begs l k = false) : Tk.nxt l k = ((Tk.sgl (Ru.g l k)).1, (Tk.sgl (Ru.g l k)).2, 0, k + 1) := by
 rw [Tk.nxt_past h]
 unfold Tk.rest Tk.sgl
 rw [if_neg (fun hh => by rw [h64 hh.1] at hh; exact absurd hh.2 (by decide)), if_neg (by rw [hb]; decide)]
 split
 ·rfl
 ·split
  ·rfl
  ·split <;> rfl
theorem Tk.nxt_num {l : List Int} {k : Nat} (h1 : Ru.g l k ≠ 34) (h2 : Ru.g l k ≠ 39) (h3 : Ru.g l k ≠ 35) (h : 0 < Tk.nlen l k) : Tk.nxt l k = ((Tk.nbr l (k + Tk.nlen l k)).1, (Tk.nbr l (k + Tk.nlen l k)).2.1, Tk.nval l k, (Tk.nbr l (k + Tk.nlen l k)).2.2) := by
 unfold Tk.nxt Tk.nbr
 rw [if_neg (by omega), if_neg (fun hh => h3 hh.1), if_pos ⟨(Tk.nlen_num h).2, h⟩]
 split
 ·rfl
 ·split <;> rfl
theorem Tk.nxt_word {l : List Int} {k : Nat} (h : Tk.Past l k) (h64 : Ru.g l k = 64 -> Tk.begs l (k + 1) = false) (hb : Tk.begs l k = true) : Tk.nxt l k = ((Tk.wrd l k).1, Tk.str (Tk.name l k).1, 0, (Tk.wrd l k).2) := by
 rw [Tk.nxt_past h]
 unfold Tk.rest Tk.wrd
 rw [if_neg (fun hh => by rw [h64 hh.1] at hh; exact absurd hh.2 (by decide)), if_pos hb]
 split <;> rfl
section
variable {w : World} {g cap k : Nat} {A : Option Addr} {l : List Int} {pl : ByteArray}
theorem next_quoted (hC : Tk.Chr l) (hm : l.length <= 65000) (hk : k < l.length) (_hp : pl.data.toList = l.map Tk.p8) (hw : Ru.whiB (Ru.g l k) = false) (ho : Tk.opn l k = false) (hq : Ru.g l k = 34 ∨ Ru.g l k = 39) (S : Sc w g A cap l pl k) :
 Calls Tryz.prog 50 #[.pointer (some ⟨g, 0, none⟩)] w (Stp g A cap l pl (Tk.nxt l k).2.2.2 (NxtV (Tk.nxt l k)) w) := by
 have hgb := S.lt
 have S := S.alloc (.cells #[.int .i64 0, .string ⟨#[]⟩, .int .i64 0] 70)
 have M := (Mv.refl g w).alloc (.cells #[.int .i64 0, .string ⟨#[]⟩, .int .i64 0] 70)
 have Z := Tz.new w
 have hg := hC.g hk
 have C0 : Hid (∀ w', Sc w' g A cap l pl k -> Calls Tryz.prog 49 #[.pointer (some ⟨g, 0, none⟩), .int .i64 0] w' (Stp g A cap l pl k (.int .i32 (Ru.g l k)) w')) := Lib.hid fun w' h => by have := peek_any 0 0 rfl (show l.length <= 65536 by omega) (Nat.le_of_lt hk) (by omega) h; rwa [show k + 0 = k from rfl, Tk.at_in hk] at this
 have O0 : Hid (∀ w', Sc w' g A cap l pl k -> Calls Tryz.prog 86 #[.pointer (some ⟨g, 0, none⟩)] w' (Stp g A cap l pl k (.bool false) w')) := Lib.hid fun w' h => by have := opens_any (show l.length <= 65536 by omega) (Nat.le_of_lt hk) h; rwa [ho] at this
 have T0 : Hid (∀ w', Sc w' g A cap l pl k -> Calls Tryz.prog 91 #[.pointer (some ⟨g, 0, none⟩)] w' (Stp g A cap l pl (k + 1) (.int .i32 (Ru.g l k)) w')) := Lib.hid fun w' h => by have := take_in (show l.length <= 65536 by omega) hk h; rwa [Tk.at_in hk] at this
 have Q0 : Hid (∀ w', Sc w' g A cap l pl k -> Calls Tryz.prog 88 #[.pointer (some ⟨g, 0, none⟩)] w' (Stp g A cap l pl (Tk.qq l (Ru.g l k) (k + 1)).2.2 (tokV (Tk.qq l (Ru.g l k) (k + 1)).1 (Tk.str (Tk.qq l (Ru.g l k) (k + 1)).2.1) 0) w')) := Lib.hid fun w' h => quoted_any hC hm hk hq h
 have HE : Hid (Tk.nxt l k = ((Tk.qq l (Ru.g l k) (k + 1)).1, Tk.str (Tk.qq l (Ru.g l k) (k + 1)).2.1, 0, (Tk.qq l (Ru.g l k) (k + 1)).2.2)) := Lib.hid (by unfold Tk.nxt; rw [if_pos hq])
 clear _hp ho hC hg T0
 generalize Ru.g l k = c at *
 generalize Tk.qq l c (k + 1) = q at *
 obtain ⟨kd, ds, j2⟩ := q
 simp only at Q0 HE
 rcases hq with rfl | rfl
 all_goals
  go_enter Tryz.func50, Tryz.ntmps50
  go_wp2_with (first | (go_at_call 49; (first | (with_reducible refine (C0.out _ S).mono ?_)); rintro e w1 ⟨rfl, S, m1⟩; have Z := Z.mv m1 hgb; have M := M.trans m1; clear m1; obtain ⟨z0, z1, z2, f0, f1, f2⟩ := Z.cells) | (go_at_call 85; ((with_reducible refine (white_any _ _).mono ?_); rintro e w1 ⟨rfl, rfl⟩)) | (go_at_call 86; (first | (with_reducible refine (O0.out _ S).mono ?_)); rintro e w1 ⟨rfl, S, m1⟩; have Z := Z.mv m1 hgb; have M := M.trans m1; clear m1; obtain ⟨z0, z1, z2, f0, f1, f2⟩ := Z.cells) | (go_at_call 88; (first | (with_reducible refine (Q0.out _ S).mono ?_)); rintro e w1 ⟨he, S, m1⟩; unfold tokV at he; subst he; have Z := Z.mv m1 hgb; have M := M.trans m1; clear m1; obtain ⟨z0, z1, z2, f0, f1, f2⟩ := Z.cells))
  refine bodyPost_ret (v := .tuple #[tokV (kd) (Tk.str ds) (0), .bool true]) (by simp [results, tokV, Tryz.results50, go_sem, z0, z1, z2]) rfl ⟨by rw [HE.out]; rfl, sc_stores (by rw [HE.out]; exact S) hgb _ _ _, tz_stores M (Nat.le_refl _) _ _ _⟩
theorem next_hash (hC : Tk.Chr l) (hm : l.length <= 65000) (hk : k < l.length) (_hp : pl.data.toList = l.map Tk.p8) (hw : Ru.whiB (Ru.g l k) = false) (ho : Tk.opn l k = false) (hq : Ru.g l k = 35) (hr : Ru.witB (Tk.at' l (k + 1)) = true ∨ Tk.esc l (k + 1) = true) (S : Sc w g A cap l pl k) :
 Calls Tryz.prog 50 #[.pointer (some ⟨g, 0, none⟩)] w (Stp g A cap l pl (Tk.nxt l k).2.2.2 (NxtV (Tk.nxt l k)) w) := by
 have hgb := S.lt
 have S := S.alloc (.cells #[.int .i64 0, .string ⟨#[]⟩, .int .i64 0] 70)
 have M := (Mv.refl g w).alloc (.cells #[.int .i64 0, .string ⟨#[]⟩, .int .i64 0] 70)
 have Z := Tz.new w
 have hg := hC.g hk
 have C0 : Hid (∀ w', Sc w' g A cap l pl k -> Calls Tryz.prog 49 #[.pointer (some ⟨g, 0, none⟩), .int .i64 0] w' (Stp g A cap l pl k (.int .i32 (Ru.g l k)) w')) := Lib.hid fun w' h => by have := peek_any 0 0 rfl (show l.length <= 65536 by omega) (Nat.le_of_lt hk) (by omega) h; rwa [show k + 0 = k from rfl, Tk.at_in hk] at this
 have O0 : Hid (∀ w', Sc w' g A cap l pl k -> Calls Tryz.prog 86 #[.pointer (some ⟨g, 0, none⟩)] w' (Stp g A cap l pl k (.bool false) w')) := Lib.hid fun w' h => by have := opens_any (show l.length <= 65536 by omega) (Nat.le_of_lt hk) h; rwa [ho] at this
 have T0 : Hid (∀ w', Sc w' g A cap l pl k -> Calls Tryz.prog 91 #[.pointer (some ⟨g, 0, none⟩)] w' (Stp g A cap l pl (k + 1) (.int .i32 (Ru.g l k)) w')) := Lib.hid fun w' h => by have := take_in (show l.length <= 65536 by omega) hk h; rwa [Tk.at_in hk] at this
 have C1 : Hid (∀ w', Sc w' g A cap l pl k -> Calls Tryz.prog 49 #[.pointer (some ⟨g, 0, none⟩), .int .i64 1] w' (Stp g A cap l pl k (.int .i32 (Tk.at' l (k + 1))) w')) := Lib.hid fun w' h => peek_any 1 1 rfl (by omega) (Nat.le_of_lt hk) (by omega) h
 have E1 : Hid (∀ w', Sc w' g A cap l pl k -> Calls Tryz.prog 90 #[.pointer (some ⟨g, 0, none⟩), .int .i64 1] w' (Stp g A cap l pl k (.bool (Tk.esc l (k + 1))) w')) := Lib.hid fun w' h => escapes_any 1 1 rfl hC.pos (by omega) (Nat.le_of_lt hk) (by omega) h
 have X1 : Hid (∀ w', Sc w' g A cap l pl (k + 1) -> Calls Tryz.prog 92 #[.pointer (some ⟨g, 0, none⟩)] w' (Stp g A cap l pl (Tk.name l (k + 1)).2 (.string (Tk.str (Tk.name l (k + 1)).1)) w')) := Lib.hid fun w' h => name_any hC hm hk h
 have HE : Hid (Tk.nxt l k = (5, Tk.str (Tk.name l (k + 1)).1, 0, (Tk.name l (k + 1)).2)) := Lib.hid (by unfold Tk.nxt; rw [if_neg (by omega), if_pos ⟨hq, hr⟩])
 clear _hp ho hC hg
 generalize Ru.g l k = c at *
 generalize Tk.at' l (k + 1) = a1 at *
 generalize Tk.esc l (k + 1) = b1 at *
 generalize Tk.name l (k + 1) = nm at *
 obtain ⟨ds, j2⟩ := nm
 simp only at X1 HE
 subst hq
 cases hwi : Ru.witB a1
 ·have hb : b1 = true := by
   rcases hr with hr | hr
   ·rw [hwi] at hr; cases hr
   ·exact hr
  subst hb
  clear hr
  go_enter Tryz.func50, Tryz.ntmps50
  go_wp2_with (first | (go_at_call 49; (first | (with_reducible refine (C0.out _ S).mono ?_) | (with_reducible refine (C1.out _ S).mono ?_)); rintro e w1 ⟨rfl, S, m1⟩; have Z := Z.mv m1 hgb; have M := M.trans m1; clear m1; obtain ⟨z0, z1, z2, f0, f1, f2⟩ := Z.cells) | (go_at_call 85; ((with_reducible refine (white_any _ _).mono ?_); rintro e w1 ⟨rfl, rfl⟩)) | (go_at_call 89; ((with_reducible refine (within_any _ _).mono ?_); rintro e w1 ⟨rfl, rfl⟩)) | (go_at_call 86; (first | (with_reducible refine (O0.out _ S).mono ?_)); rintro e w1 ⟨rfl, S, m1⟩; have Z := Z.mv m1 hgb; have M := M.trans m1; clear m1; obtain ⟨z0, z1, z2, f0, f1, f2⟩ := Z.cells) | (go_at_call 90; (first | (with_reducible refine (E1.out _ S).mono ?_)); rintro e w1 ⟨rfl, S, m1⟩; have Z := Z.mv m1 hgb; have M := M.trans m1; clear m1; obtain ⟨z0, z1, z2, f0, f1, f2⟩ := Z.cells) | (go_at_call 91; (first | (with_reducible refine (T0.out _ S).mono ?_)); rintro e w1 ⟨rfl, S, m1⟩; have Z := Z.mv m1 hgb; have M := M.trans m1; clear m1; obtain ⟨z0, z1, z2, f0, f1, f2⟩ := Z.cells) | (go_at_call 92; (first | (with_reducible refine (X1.out _ S).mono ?_)); rintro e w1 ⟨rfl, S, m1⟩; have Z := Z.mv m1 hgb; have M := M.trans m1; clear m1; obtain ⟨z0, z1, z2, f0, f1, f2⟩ := Z.cells))
  refine bodyPost_ret (v := .tuple #[tokV (5) (Tk.str ds) (0), .bool true]) (by simp [results, tokV, Tryz.results50, go_sem, z0, z1, z2]) rfl ⟨by rw [HE.out]; rfl, sc_stores (by rw [HE.out]; exact S) hgb _ _ _, tz_stores M (Nat.le_refl _) _ _ _⟩
 ·clear hr
  go_enter Tryz.func50, Tryz.ntmps50
  go_wp2_with (first | (go_at_call 49; (first | (with_reducible refine (C0.out _ S).mono ?_) | (with_reducible refine (C1.out _ S).mono ?_)); rintro e w1 ⟨rfl, S, m1⟩; have Z := Z.mv m1 hgb; have M := M.trans m1; clear m1; obtain ⟨z0, z1, z2, f0, f1, f2⟩ := Z.cells) | (go_at_call 85; ((with_reducible refine (white_any _ _).mono ?_); rintro e w1 ⟨rfl, rfl⟩)) | (go_at_call 89; ((with_reducible refine (within_any _ _).mono ?_); rintro e w1 ⟨rfl, rfl⟩)) | (go_at_call 86; (first | (with_reducible refine (O0.out _ S).mono ?_)); rintro e w1 ⟨rfl, S, m1⟩; have Z := Z.mv m1 hgb; have M := M.trans m1; clear m1; obtain ⟨z0, z1, z2, f0, f1, f2⟩ := Z.cells) | (go_at_call 90; (first | (with_reducible refine (E1.out _ S).mono ?_)); rintro e w1 ⟨rfl, S, m1⟩; have Z := Z.mv m1 hgb; have M := M.trans m1; clear m1; obtain ⟨z0, z1, z2, f0, f1, f2⟩ := Z.cells) | (go_at_call 91; (first | (with_reducible refine (T0.out _ S).mono ?_)); rintro e w1 ⟨rfl, S, m1⟩; have Z := Z.mv m1 hgb; have M := M.trans m1; clear m1; obtain ⟨z0, z1, z2, f0, f1, f2⟩ := Z.cells) | (go_at_call 92; (first | (with_reducible refine (X1.out _ S).mono ?_)); rintro e w1 ⟨rfl, S, m1⟩; have Z := Z.mv m1 hgb; have M := M.trans m1; clear m1; obtain ⟨z0, z1, z2, f0, f1, f2⟩ := Z.cells))
  refine bodyPost_ret (v := .tuple #[tokV (5) (Tk.str ds) (0), .bool true]) (by simp [results, tokV, Tryz.results50, go_sem, z0, z1, z2]) rfl ⟨by rw [HE.out]; rfl, sc_stores (by rw [HE.out]; exact S) hgb _ _ _, tz_stores M (Nat.le_refl _) _ _ _⟩
theorem next_number (hC : Tk.Chr l) (hm : l.length <= 65000) (hk : k < l.length) (hp : pl.data.toList = l.map Tk.p8) (hw : Ru.whiB (Ru.g l k) = false) (ho : Tk.opn l k = false) (h1 : Ru.g l k ≠ 34) (h2 : Ru.g l k ≠ 39) (h3 : Ru.g l k ≠ 35) (hq : 0 < Tk.nlen l k) (S : Sc w g A cap l pl k) :
 Calls Tryz.prog 50 #[.pointer (some ⟨g, 0, none⟩)] w (Stp g A cap l pl (Tk.nxt l k).2.2.2 (NxtV (Tk.nxt l k)) w) := by
 have hgb := S.lt
 have S := S.alloc (.cells #[.int .i64 0, .string ⟨#[]⟩, .int .i64 0] 70)
 have M := (Mv.refl g w).alloc (.cells #[.int .i64 0, .string ⟨#[]⟩, .int .i64 0] 70)
 have Z := Tz.new w
 have hg := hC.g hk
 have C0 : Hid (∀ w', Sc w' g A cap l pl k -> Calls Tryz.prog 49 #[.pointer (some ⟨g, 0, none⟩), .int .i64 0] w' (Stp g A cap l pl k (.int .i32 (Ru.g l k)) w')) := Lib.hid fun w' h => by have := peek_any 0 0 rfl (show l.length <= 65536 by omega) (Nat.le_of_lt hk) (by omega) h; rwa [show k + 0 = k from rfl, Tk.at_in hk] at this
 have O0 : Hid (∀ w', Sc w' g A cap l pl k -> Calls Tryz.prog 86 #[.pointer (some ⟨g, 0, none⟩)] w' (Stp g A cap l pl k (.bool false) w')) := Lib.hid fun w' h => by have := opens_any (show l.length <= 65536 by omega) (Nat.le_of_lt hk) h; rwa [ho] at this
 have T0 : Hid (∀ w', Sc w' g A cap l pl k -> Calls Tryz.prog 91 #[.pointer (some ⟨g, 0, none⟩)] w' (Stp g A cap l pl (k + 1) (.int .i32 (Ru.g l k)) w')) := Lib.hid fun w' h => by have := take_in (show l.length <= 65536 by omega) hk h; rwa [Tk.at_in hk] at this
 have D0 : Hid (∀ w', Sc w' g A cap l pl k -> Calls Tryz.prog 93 #[.pointer (some ⟨g, 0, none⟩)] w' (Stp g A cap l pl k (.int .i64 (Tk.nlen l k : Nat)) w')) := Lib.hid fun w' h => decimal_any hm (Nat.le_of_lt hk) hp h
 have Q0 : Hid (∀ w', Sc w' g A cap l pl k -> Calls Tryz.prog 94 #[.pointer (some ⟨g, 0, none⟩)] w' (Stp g A cap l pl (Tk.nbr l (k + Tk.nlen l k)).2.2 (tokV (Tk.nbr l (k + Tk.nlen l k)).1 (Tk.nbr l (k + Tk.nlen l k)).2.1 (Tk.nval l k)) w')) := Lib.hid fun w' h => number_any hC hm (Nat.le_of_lt hk) hp hq h
 have HE := Lib.hid (Tk.nxt_num h1 h2 h3 hq)
 have hnl := Tk.nlen_le l k (Nat.le_of_lt hk)
 clear hp ho hC hg T0
 generalize Ru.g l k = c at *
 generalize Tk.nbr l (k + Tk.nlen l k) = q at *
 generalize Tk.nval l k = v at *
 generalize Tk.nlen l k = n at *
 obtain ⟨kd, tx, j2⟩ := q
 simp only at Q0 HE
 have n1 := Ru.eq_f h1
 have n2 := Ru.eq_f h2
 have n3 := Ru.eq_f h3
 clear h1 h2 h3
 go_enter Tryz.func50, Tryz.ntmps50
 go_wp2_with (first | (go_at_call 49; (first | (with_reducible refine (C0.out _ S).mono ?_)); rintro e w1 ⟨rfl, S, m1⟩; have Z := Z.mv m1 hgb; have M := M.trans m1; clear m1; obtain ⟨z0, z1, z2, f0, f1, f2⟩ := Z.cells) | (go_at_call 85; ((with_reducible refine (white_any _ _).mono ?_); rintro e w1 ⟨rfl, rfl⟩)) | (go_at_call 86; (first | (with_reducible refine (O0.out _ S).mono ?_)); rintro e w1 ⟨rfl, S, m1⟩; have Z := Z.mv m1 hgb; have M := M.trans m1; clear m1; obtain ⟨z0, z1, z2, f0, f1, f2⟩ := Z.cells) | (go_at_call 93; (first | (with_reducible refine (D0.out _ S).mono ?_)); rintro e w1 ⟨rfl, S, m1⟩; have Z := Z.mv m1 hgb; have M := M.trans m1; clear m1; obtain ⟨z0, z1, z2, f0, f1, f2⟩ := Z.cells) | (go_at_call 94; (first | (with_reducible refine (Q0.out _ S).mono ?_)); rintro e w1 ⟨he, S, m1⟩; unfold tokV at he; subst he; have Z := Z.mv m1 hgb; have M := M.trans m1; clear m1; obtain ⟨z0, z1, z2, f0, f1, f2⟩ := Z.cells))
 refine bodyPost_ret (v := .tuple #[tokV (kd) (tx) (v), .bool true]) (by simp [results, tokV, Tryz.results50, go_sem, z0, z1, z2]) rfl ⟨by rw [HE.out]; rfl, sc_stores (by rw [HE.out]; exact S) hgb _ _ _, tz_stores M (Nat.le_refl _) _ _ _⟩
end
section
variable {w : World} {g cap k : Nat} {A : Option Addr} {l : List Int} {pl : ByteArray}
theorem next_atkey (hC : Tk.Chr l) (hm : l.length <= 65000) (hk : k < l.length) (hp : pl.data.toList = l.map Tk.p8) (hw : Ru.whiB (Ru.g l k) = false) (ho : Tk.opn l k = false) (hq : Ru.g l k = 64) (hr : Tk.begs l (k + 1) = true) (S : Sc w g A cap l pl k) :
 Calls Tryz.prog 50 #[.pointer (some ⟨g, 0, none⟩)] w (Stp g A cap l pl (Tk.nxt l k).2.2.2 (NxtV (Tk.nxt l k)) w) := by
 have hgb := S.lt
 have S := S.alloc (.cells #[.int .i64 0, .string ⟨#[]⟩, .int .i64 0] 70)
 have M := (Mv.refl g w).alloc (.cells #[.int .i64 0, .string ⟨#[]⟩, .int .i64 0] 70)
 have Z := Tz.new w
 have hg := hC.g hk
 have C0 : Hid (∀ w', Sc w' g A cap l pl k -> Calls Tryz.prog 49 #[.pointer (some ⟨g, 0, none⟩), .int .i64 0] w' (Stp g A cap l pl k (.int .i32 (Ru.g l k)) w')) := Lib.hid fun w' h => by have := peek_any 0 0 rfl (show l.length <= 65536 by omega) (Nat.le_of_lt hk) (by omega) h; rwa [show k + 0 = k from rfl, Tk.at_in hk] at this
 have O0 : Hid (∀ w', Sc w' g A cap l pl k -> Calls Tryz.prog 86 #[.pointer (some ⟨g, 0, none⟩)] w' (Stp g A cap l pl k (.bool false) w')) := Lib.hid fun w' h => by have := opens_any (show l.length <= 65536 by omega) (Nat.le_of_lt hk) h; rwa [ho] at this
 have T0 : Hid (∀ w', Sc w' g A cap l pl k -> Calls Tryz.prog 91 #[.pointer (some ⟨g, 0, none⟩)] w' (Stp g A cap l pl (k + 1) (.int .i32 (Ru.g l k)) w')) := Lib.hid fun w' h => by have := take_in (show l.length <= 65536 by omega) hk h; rwa [Tk.at_in hk] at this
 have D0 : Hid (∀ w', Sc w' g A cap l pl k -> Calls Tryz.prog 93 #[.pointer (some ⟨g, 0, none⟩)] w' (Stp g A cap l pl k (.int .i64 (Tk.nlen l k : Nat)) w')) := Lib.hid fun w' h => decimal_any hm (Nat.le_of_lt hk) hp h
 have N1 : Hid (∀ w', Sc w' g A cap l pl k -> Calls Tryz.prog 95 #[.pointer (some ⟨g, 0, none⟩), .int .i64 1] w' (Stp g A cap l pl k (.bool (Tk.begs l (k + 1))) w')) := Lib.hid fun w' h => names_any 1 1 rfl hC.pos (by omega) (Nat.le_of_lt hk) (by omega) h
 have X1 : Hid (∀ w', Sc w' g A cap l pl (k + 1) -> Calls Tryz.prog 92 #[.pointer (some ⟨g, 0, none⟩)] w' (Stp g A cap l pl (Tk.name l (k + 1)).2 (.string (Tk.str (Tk.name l (k + 1)).1)) w')) := Lib.hid fun w' h => name_any hC hm hk h
 have h0 : Tk.nlen l k = 0 := Nat.eq_zero_of_not_pos (fun h => by have := (Tk.nlen_num h).2; rw [hq] at this; exact absurd this (by decide))
 have HE : Hid (Tk.nxt l k = (4, Tk.str (Tk.name l (k + 1)).1, 0, (Tk.name l (k + 1)).2)) := Lib.hid (by
  unfold Tk.nxt Tk.rest
  rw [if_neg (by omega), if_neg (by omega), if_neg (by omega), if_pos ⟨hq, hr⟩])
 rw [h0] at D0
 rw [hr] at N1
 clear hp ho hC hg h0 hr
 generalize Ru.g l k = c at *
 generalize Tk.name l (k + 1) = nm at *
 obtain ⟨ds, j2⟩ := nm
 simp only at X1 HE
 subst hq
 go_enter Tryz.func50, Tryz.ntmps50
 go_wp2_with (first | (go_at_call 49; (first | (with_reducible refine (C0.out _ S).mono ?_)); rintro e w1 ⟨rfl, S, m1⟩; have Z := Z.mv m1 hgb; have M := M.trans m1; clear m1; obtain ⟨z0, z1, z2, f0, f1, f2⟩ := Z.cells) | (go_at_call 85; ((with_reducible refine (white_any _ _).mono ?_); rintro e w1 ⟨rfl, rfl⟩)) | (go_at_call 86; (first | (with_reducible refine (O0.out _ S).mono ?_)); rintro e w1 ⟨rfl, S, m1⟩; have Z := Z.mv m1 hgb; have M := M.trans m1; clear m1; obtain ⟨z0, z1, z2, f0, f1, f2⟩ := Z.cells) | (go_at_call 93; (first | (with_reducible refine (D0.out _ S).mono ?_)); rintro e w1 ⟨rfl, S, m1⟩; have Z := Z.mv m1 hgb; have M := M.trans m1; clear m1; obtain ⟨z0, z1, z2, f0, f1, f2⟩ := Z.cells) | (go_at_call 95; (first | (with_reducible refine (N1.out _ S).mono ?_)); rintro e w1 ⟨rfl, S, m1⟩; have Z := Z.mv m1 hgb; have M := M.trans m1; clear m1; obtain ⟨z0, z1, z2, f0, f1, f2⟩ := Z.cells) | (go_at_call 91; (first | (with_reducible refine (T0.out _ S).mono ?_)); rintro e w1 ⟨rfl, S, m1⟩; have Z := Z.mv m1 hgb; have M := M.trans m1; clear m1; obtain ⟨z0, z1, z2, f0, f1, f2⟩ := Z.cells) | (go_at_call 92; (first | (with_reducible refine (X1.out _ S).mono ?_)); rintro e w1 ⟨rfl, S, m1⟩; have Z := Z.mv m1 hgb; have M := M.trans m1; clear m1; obtain ⟨z0, z1, z2, f0, f1, f2⟩ := Z.cells))
 refine bodyPost_ret (v := .tuple #[tokV (4) (Tk.str ds) (0), .bool true]) (by simp [results, tokV, Tryz.results50, go_sem, z0, z1, z2]) rfl ⟨by rw [HE.out]; rfl, sc_stores (by rw [HE.out]; exact S) hgb _ _ _, tz_stores M (Nat.le_refl _) _ _ _⟩
theorem next_word (hC : Tk.Chr l) (hm : l.length <= 65000) (hk : k < l.length) (hp : pl.data.toList = l.map Tk.p8) (hw : Ru.whiB (Ru.g l k) = false) (ho : Tk.opn l k = false) (hpast : Tk.Past l k) (h64 : Ru.g l k = 64 -> Tk.begs l (k + 1) = false) (hr : Tk.begs l k = true) (S : Sc w g A cap l pl k) :
 Calls Tryz.prog 50 #[.pointer (some ⟨g, 0, none⟩)] w (Stp g A cap l pl (Tk.nxt l k).2.2.2 (NxtV (Tk.nxt l k)) w) := by
 have hgb := S.lt
 have S := S.alloc (.cells #[.int .i64 0, .string ⟨#[]⟩, .int .i64 0] 70)
 have M := (Mv.refl g w).alloc (.cells #[.int .i64 0, .string ⟨#[]⟩, .int .i64 0] 70)
 have Z := Tz.new w
 have hg := hC.g hk
 have C0 : Hid (∀ w', Sc w' g A cap l pl k -> Calls Tryz.prog 49 #[.pointer (some ⟨g, 0, none⟩), .int .i64 0] w' (Stp g A cap l pl k (.int .i32 (Ru.g l k)) w')) := Lib.hid fun w' h => by have := peek_any 0 0 rfl (show l.length <= 65536 by omega) (Nat.le_of_lt hk) (by omega) h; rwa [show k + 0 = k from rfl, Tk.at_in hk] at this
 have O0 : Hid (∀ w', Sc w' g A cap l pl k -> Calls Tryz.prog 86 #[.pointer (some ⟨g, 0, none⟩)] w' (Stp g A cap l pl k (.bool false) w')) := Lib.hid fun w' h => by have := opens_any (show l.length <= 65536 by omega) (Nat.le_of_lt hk) h; rwa [ho] at this
 have T0 : Hid (∀ w', Sc w' g A cap l pl k -> Calls Tryz.prog 91 #[.pointer (some ⟨g, 0, none⟩)] w' (Stp g A cap l pl (k + 1) (.int .i32 (Ru.g l k)) w')) := Lib.hid fun w' h => by have := take_in (show l.length <= 65536 by omega) hk h; rwa [Tk.at_in hk] at this
 have D0 : Hid (∀ w', Sc w' g A cap l pl k -> Calls Tryz.prog 93 #[.pointer (some ⟨g, 0, none⟩)] w' (Stp g A cap l pl k (.int .i64 (Tk.nlen l k : Nat)) w')) := Lib.hid fun w' h => decimal_any hm (Nat.le_of_lt hk) hp h
 have N1 : Hid (∀ w', Sc w' g A cap l pl k -> Calls Tryz.prog 95 #[.pointer (some ⟨g, 0, none⟩), .int .i64 1] w' (Stp g A cap l pl k (.bool (Tk.begs l (k + 1))) w')) := Lib.hid fun w' h => names_any 1 1 rfl hC.pos (by omega) (Nat.le_of_lt hk) (by omega) h
 have N0 : Hid (∀ w', Sc w' g A cap l pl k -> Calls Tryz.prog 95 #[.pointer (some ⟨g, 0, none⟩), .int .i64 0] w' (Stp g A cap l pl k (.bool (Tk.begs l k)) w')) := Lib.hid fun w' h => names_any 0 0 rfl hC.pos (by omega) (Nat.le_of_lt hk) (by omega) h
 have Q0 : Hid (∀ w', Sc w' g A cap l pl k -> Calls Tryz.prog 96 #[.pointer (some ⟨g, 0, none⟩)] w' (Stp g A cap l pl (Tk.wrd l k).2 (tokV (Tk.wrd l k).1 (Tk.str (Tk.name l k).1) 0) w')) := Lib.hid fun w' h => word_any hC hm (Nat.le_of_lt hk) h
 have h0 : Tk.nlen l k = 0 := Nat.eq_zero_of_not_pos (fun h => by have := hpast.2.2.2 (Tk.nlen_num h).2; omega)
 have HE := Lib.hid (Tk.nxt_word hpast h64 hr)
 have h35 : Ru.g l k ≠ 35 := fun h => by have := Tk.begs_not hk (.inl h); rw [this] at hr; cases hr
 have n1 := Ru.eq_f hpast.1
 have n2 := Ru.eq_f hpast.2.1
 have n3 := Ru.eq_f h35
 rw [h0] at D0
 rw [hr] at N0
 clear hp ho hC hg h0 hr T0 hpast h35
 generalize Tk.begs l (k + 1) = b1 at *
 generalize Ru.g l k = c at *
 generalize Tk.wrd l k = wd at *
 generalize Tk.str (Tk.name l k).1 = tx at *
 obtain ⟨kd, j2⟩ := wd
 simp only at Q0 HE
 by_cases c64 : c = 64
 ·have hb1 := h64 c64
  subst c64
  subst hb1
  clear h64
  go_enter Tryz.func50, Tryz.ntmps50
  go_wp2_with (first | (go_at_call 49; (first | (with_reducible refine (C0.out _ S).mono ?_)); rintro e w1 ⟨rfl, S, m1⟩; have Z := Z.mv m1 hgb; have M := M.trans m1; clear m1; obtain ⟨z0, z1, z2, f0, f1, f2⟩ := Z.cells) | (go_at_call 85; ((with_reducible refine (white_any _ _).mono ?_); rintro e w1 ⟨rfl, rfl⟩)) | (go_at_call 86; (first | (with_reducible refine (O0.out _ S).mono ?_)); rintro e w1 ⟨rfl, S, m1⟩; have Z := Z.mv m1 hgb; have M := M.trans m1; clear m1; obtain ⟨z0, z1, z2, f0, f1, f2⟩ := Z.cells) | (go_at_call 93; (first | (with_reducible refine (D0.out _ S).mono ?_)); rintro e w1 ⟨rfl, S, m1⟩; have Z := Z.mv m1 hgb; have M := M.trans m1; clear m1; obtain ⟨z0, z1, z2, f0, f1, f2⟩ := Z.cells) | (go_at_call 95; (first | (with_reducible refine (N0.out _ S).mono ?_) | (with_reducible refine (N1.out _ S).mono ?_)); rintro e w1 ⟨rfl, S, m1⟩; have Z := Z.mv m1 hgb; have M := M.trans m1; clear m1; obtain ⟨z0, z1, z2, f0, f1, f2⟩ := Z.cells) | (go_at_call 96; (first | (with_reducible refine (Q0.out _ S).mono ?_)); rintro e w1 ⟨he, S, m1⟩; unfold tokV at he; subst he; have Z := Z.mv m1 hgb; have M := M.trans m1; clear m1; obtain ⟨z0, z1, z2, f0, f1, f2⟩ := Z.cells))
  refine bodyPost_ret (v := .tuple #[tokV (kd) (tx) (0), .bool true]) (by simp [results, tokV, Tryz.results50, go_sem, z0, z1, z2]) rfl ⟨by rw [HE.out]; rfl, sc_stores (by rw [HE.out]; exact S) hgb _ _ _, tz_stores M (Nat.le_refl _) _ _ _⟩
 ·have n4 := Ru.eq_f c64
  clear h64 c64
  go_enter Tryz.func50, Tryz.ntmps50
  go_wp2_with (first | (go_at_call 49; (first | (with_reducible refine (C0.out _ S).mono ?_)); rintro e w1 ⟨rfl, S, m1⟩; have Z := Z.mv m1 hgb; have M := M.trans m1; clear m1; obtain ⟨z0, z1, z2, f0, f1, f2⟩ := Z.cells) | (go_at_call 85; ((with_reducible refine (white_any _ _).mono ?_); rintro e w1 ⟨rfl, rfl⟩)) | (go_at_call 86; (first | (with_reducible refine (O0.out _ S).mono ?_)); rintro e w1 ⟨rfl, S, m1⟩; have Z := Z.mv m1 hgb; have M := M.trans m1; clear m1; obtain ⟨z0, z1, z2, f0, f1, f2⟩ := Z.cells) | (go_at_call 93; (first | (with_reducible refine (D0.out _ S).mono ?_)); rintro e w1 ⟨rfl, S, m1⟩; have Z := Z.mv m1 hgb; have M := M.trans m1; clear m1; obtain ⟨z0, z1, z2, f0, f1, f2⟩ := Z.cells) | (go_at_call 95; (first | (with_reducible refine (N0.out _ S).mono ?_) | (with_reducible refine (N1.out _ S).mono ?_)); rintro e w1 ⟨rfl, S, m1⟩; have Z := Z.mv m1 hgb; have M := M.trans m1; clear m1; obtain ⟨z0, z1, z2, f0, f1, f2⟩ := Z.cells) | (go_at_call 96; (first | (with_reducible refine (Q0.out _ S).mono ?_)); rintro e w1 ⟨he, S, m1⟩; unfold tokV at he; subst he; have Z := Z.mv m1 hgb; have M := M.trans m1; clear m1; obtain ⟨z0, z1, z2, f0, f1, f2⟩ := Z.cells))
  refine bodyPost_ret (v := .tuple #[tokV (kd) (tx) (0), .bool true]) (by simp [results, tokV, Tryz.results50, go_sem, z0, z1, z2]) rfl ⟨by rw [HE.out]; rfl, sc_stores (by rw [HE.out]; exact S) hgb _ _ _, tz_stores M (Nat.le_refl _) _ _ _⟩
theorem next_sgl (hC : Tk.Chr l) (hm : l.length <= 65000) (hk : k < l.length) (hp : pl.data.toList = l.map Tk.p8) (hw : Ru.whiB (Ru.g l k) = false) (ho : Tk.opn l k = false) (hpast : Tk.Past l k) (h64 : Ru.g l k = 64 -> Tk.begs l (k + 1) = false) (hr : Tk.begs l k = false) (S : Sc w g A cap l pl k) :
 Calls Tryz.prog 50 #[.pointer (some ⟨g, 0, none⟩)] w (Stp g A cap l pl (Tk.nxt l k).2.2.2 (NxtV (Tk.nxt l k)) w) := by
 have hgb := S.lt
 have S := S.alloc (.cells #[.int .i64 0, .string ⟨#[]⟩, .int .i64 0] 70)
 have M := (Mv.refl g w).alloc (.cells #[.int .i64 0, .string ⟨#[]⟩, .int .i64 0] 70)
 have Z := Tz.new w
 have hg := hC.g hk
 have C0 : Hid (∀ w', Sc w' g A cap l pl k -> Calls Tryz.prog 49 #[.pointer (some ⟨g, 0, none⟩), .int .i64 0] w' (Stp g A cap l pl k (.int .i32 (Ru.g l k)) w')) := Lib.hid fun w' h => by have := peek_any 0 0 rfl (show l.length <= 65536 by omega) (Nat.le_of_lt hk) (by omega) h; rwa [show k + 0 = k from rfl, Tk.at_in hk] at this
 have O0 : Hid (∀ w', Sc w' g A cap l pl k -> Calls Tryz.prog 86 #[.pointer (some ⟨g, 0, none⟩)] w' (Stp g A cap l pl k (.bool false) w')) := Lib.hid fun w' h => by have := opens_any (show l.length <= 65536 by omega) (Nat.le_of_lt hk) h; rwa [ho] at this
 have T0 : Hid (∀ w', Sc w' g A cap l pl k -> Calls Tryz.prog 91 #[.pointer (some ⟨g, 0, none⟩)] w' (Stp g A cap l pl (k + 1) (.int .i32 (Ru.g l k)) w')) := Lib.hid fun w' h => by have := take_in (show l.length <= 65536 by omega) hk h; rwa [Tk.at_in hk] at this
 have C1 : Hid (∀ w', Sc w' g A cap l pl k -> Calls Tryz.prog 49 #[.pointer (some ⟨g, 0, none⟩), .int .i64 1] w' (Stp g A cap l pl k (.int .i32 (Tk.at' l (k + 1))) w')) := Lib.hid fun w' h => peek_any 1 1 rfl (by omega) (Nat.le_of_lt hk) (by omega) h
 have E1 : Hid (∀ w', Sc w' g A cap l pl k -> Calls Tryz.prog 90 #[.pointer (some ⟨g, 0, none⟩), .int .i64 1] w' (Stp g A cap l pl k (.bool (Tk.esc l (k + 1))) w')) := Lib.hid fun w' h => escapes_any 1 1 rfl hC.pos (by omega) (Nat.le_of_lt hk) (by omega) h
 have D0 : Hid (∀ w', Sc w' g A cap l pl k -> Calls Tryz.prog 93 #[.pointer (some ⟨g, 0, none⟩)] w' (Stp g A cap l pl k (.int .i64 (Tk.nlen l k : Nat)) w')) := Lib.hid fun w' h => decimal_any hm (Nat.le_of_lt hk) hp h
 have N1 : Hid (∀ w', Sc w' g A cap l pl k -> Calls Tryz.prog 95 #[.pointer (some ⟨g, 0, none⟩), .int .i64 1] w' (Stp g A cap l pl k (.bool (Tk.begs l (k + 1))) w')) := Lib.hid fun w' h => names_any 1 1 rfl hC.pos (by omega) (Nat.le_of_lt hk) (by omega) h
 have N0 : Hid (∀ w', Sc w' g A cap l pl k -> Calls Tryz.prog 95 #[.pointer (some ⟨g, 0, none⟩), .int .i64 0] w' (Stp g A cap l pl k (.bool (Tk.begs l k)) w')) := Lib.hid fun w' h => names_any 0 0 rfl hC.pos (by omega) (Nat.le_of_lt hk) (by omega) h
 have h0 : Tk.nlen l k = 0 := Nat.eq_zero_of_not_pos (fun h => by have := hpast.2.2.2 (Tk.nlen_num h).2; omega)
 have HE := Lib.hid (Tk.nxt_sgl hpast h64 hr)
 have CS : Hid (∀ w', Calls Tryz.prog 97 #[.int .i32 (Ru.g l k)] w' (Single (Ru.g l k) w')) := Lib.hid fun w' => single_any _ w' hg.1 hg.2
 have h35 := hpast.2.2.1
 have n1 := Ru.eq_f hpast.1
 have n2 := Ru.eq_f hpast.2.1
 rw [h0] at D0
 rw [hr] at N0
 clear hp ho hC hg h0 hr hpast
 generalize Tk.begs l (k + 1) = b1 at *
 generalize Tk.esc l (k + 1) = b2 at *
 generalize Tk.at' l (k + 1) = a1 at *
 generalize hsg : Tk.sgl (Ru.g l k) = sg at *
 have CS2 : Hid (∀ w', Calls Tryz.prog 97 #[.int .i32 (Ru.g l k)] w' (fun e w2 => e = .returned (tokV sg.1 sg.2 0) /\ Below w'.heap.size w' w2)) := Lib.hid fun w' => by rw [<- hsg]; exact CS.out w'
 clear CS hsg
 have CS := CS2
 clear CS2
 generalize Ru.g l k = c at *
 obtain ⟨kd, tx⟩ := sg
 simp only at CS HE
 by_cases c64 : c = 64
 ·have hb1 := h64 c64
  subst c64
  subst hb1
  clear h64 h35
  go_enter Tryz.func50, Tryz.ntmps50
  go_wp2_with (first | (go_at_call 49; (first | (with_reducible refine (C0.out _ S).mono ?_)); rintro e w1 ⟨rfl, S, m1⟩; have Z := Z.mv m1 hgb; have M := M.trans m1; clear m1; obtain ⟨z0, z1, z2, f0, f1, f2⟩ := Z.cells) | (go_at_call 85; ((with_reducible refine (white_any _ _).mono ?_); rintro e w1 ⟨rfl, rfl⟩)) | (go_at_call 86; (first | (with_reducible refine (O0.out _ S).mono ?_)); rintro e w1 ⟨rfl, S, m1⟩; have Z := Z.mv m1 hgb; have M := M.trans m1; clear m1; obtain ⟨z0, z1, z2, f0, f1, f2⟩ := Z.cells) | (go_at_call 93; (first | (with_reducible refine (D0.out _ S).mono ?_)); rintro e w1 ⟨rfl, S, m1⟩; have Z := Z.mv m1 hgb; have M := M.trans m1; clear m1; obtain ⟨z0, z1, z2, f0, f1, f2⟩ := Z.cells) | (go_at_call 95; (first | (with_reducible refine (N0.out _ S).mono ?_) | (with_reducible refine (N1.out _ S).mono ?_)); rintro e w1 ⟨rfl, S, m1⟩; have Z := Z.mv m1 hgb; have M := M.trans m1; clear m1; obtain ⟨z0, z1, z2, f0, f1, f2⟩ := Z.cells) | (go_at_call 91; (first | (with_reducible refine (T0.out _ S).mono ?_)); rintro e w1 ⟨rfl, S, m1⟩; have Z := Z.mv m1 hgb; have M := M.trans m1; clear m1; obtain ⟨z0, z1, z2, f0, f1, f2⟩ := Z.cells) | (go_at_call 97; ((with_reducible refine (CS.out _).mono ?_); rintro e w1 ⟨he, b1⟩; unfold tokV at he; subst he; have Z := Z.below b1 (lt_of_block Z); have M := M.then_ b1 M.size; have S := S.below b1 S.lt; clear b1; obtain ⟨z0, z1, z2, f0, f1, f2⟩ := Z.cells)))
  refine bodyPost_ret (v := .tuple #[tokV (kd) (tx) (0), .bool true]) (by simp [results, tokV, Tryz.results50, go_sem, z0, z1, z2]) rfl ⟨by rw [HE.out]; rfl, sc_stores (by rw [HE.out]; exact S) hgb _ _ _, tz_stores M (Nat.le_refl _) _ _ _⟩
 ·have n4 := Ru.eq_f c64
  clear h64 c64
  by_cases c35 : c = 35
  ·obtain ⟨h5, h6⟩ := h35 c35
   subst c35
   subst h6
   clear h35
   go_enter Tryz.func50, Tryz.ntmps50
   go_wp2_with (first | (go_at_call 49; (first | (with_reducible refine (C0.out _ S).mono ?_) | (with_reducible refine (C1.out _ S).mono ?_)); rintro e w1 ⟨rfl, S, m1⟩; have Z := Z.mv m1 hgb; have M := M.trans m1; clear m1; obtain ⟨z0, z1, z2, f0, f1, f2⟩ := Z.cells) | (go_at_call 85; ((with_reducible refine (white_any _ _).mono ?_); rintro e w1 ⟨rfl, rfl⟩)) | (go_at_call 89; ((with_reducible refine (within_any _ _).mono ?_); rintro e w1 ⟨rfl, rfl⟩)) | (go_at_call 86; (first | (with_reducible refine (O0.out _ S).mono ?_)); rintro e w1 ⟨rfl, S, m1⟩; have Z := Z.mv m1 hgb; have M := M.trans m1; clear m1; obtain ⟨z0, z1, z2, f0, f1, f2⟩ := Z.cells) | (go_at_call 90; (first | (with_reducible refine (E1.out _ S).mono ?_)); rintro e w1 ⟨rfl, S, m1⟩; have Z := Z.mv m1 hgb; have M := M.trans m1; clear m1; obtain ⟨z0, z1, z2, f0, f1, f2⟩ := Z.cells) | (go_at_call 93; (first | (with_reducible refine (D0.out _ S).mono ?_)); rintro e w1 ⟨rfl, S, m1⟩; have Z := Z.mv m1 hgb; have M := M.trans m1; clear m1; obtain ⟨z0, z1, z2, f0, f1, f2⟩ := Z.cells) | (go_at_call 95; (first | (with_reducible refine (N0.out _ S).mono ?_) | (with_reducible refine (N1.out _ S).mono ?_)); rintro e w1 ⟨rfl, S, m1⟩; have Z := Z.mv m1 hgb; have M := M.trans m1; clear m1; obtain ⟨z0, z1, z2, f0, f1, f2⟩ := Z.cells) | (go_at_call 91; (first | (with_reducible refine (T0.out _ S).mono ?_)); rintro e w1 ⟨rfl, S, m1⟩; have Z := Z.mv m1 hgb; have M := M.trans m1; clear m1; obtain ⟨z0, z1, z2, f0, f1, f2⟩ := Z.cells) | (go_at_call 97; ((with_reducible refine (CS.out _).mono ?_); rintro e w1 ⟨he, b1⟩; unfold tokV at he; subst he; have Z := Z.below b1 (lt_of_block Z); have M := M.then_ b1 M.size; have S := S.below b1 S.lt; clear b1; obtain ⟨z0, z1, z2, f0, f1, f2⟩ := Z.cells)))
   refine bodyPost_ret (v := .tuple #[tokV (kd) (tx) (0), .bool true]) (by simp [results, tokV, Tryz.results50, go_sem, z0, z1, z2]) rfl ⟨by rw [HE.out]; rfl, sc_stores (by rw [HE.out]; exact S) hgb _ _ _, tz_stores M (Nat.le_refl _) _ _ _⟩
  ·have n3 := Ru.eq_f c35
   clear h35 c35
   go_enter Tryz.func50, Tryz.ntmps50
   go_wp2_with (first | (go_at_call 49; (first | (with_reducible refine (C0.out _ S).mono ?_)); rintro e w1 ⟨rfl, S, m1⟩; have Z := Z.mv m1 hgb; have M := M.trans m1; clear m1; obtain ⟨z0, z1, z2, f0, f1, f2⟩ := Z.cells) | (go_at_call 85; ((with_reducible refine (white_any _ _).mono ?_); rintro e w1 ⟨rfl, rfl⟩)) | (go_at_call 86; (first | (with_reducible refine (O0.out _ S).mono ?_)); rintro e w1 ⟨rfl, S, m1⟩; have Z := Z.mv m1 hgb; have M := M.trans m1; clear m1; obtain ⟨z0, z1, z2, f0, f1, f2⟩ := Z.cells) | (go_at_call 93; (first | (with_reducible refine (D0.out _ S).mono ?_)); rintro e w1 ⟨rfl, S, m1⟩; have Z := Z.mv m1 hgb; have M := M.trans m1; clear m1; obtain ⟨z0, z1, z2, f0, f1, f2⟩ := Z.cells) | (go_at_call 95; (first | (with_reducible refine (N0.out _ S).mono ?_) | (with_reducible refine (N1.out _ S).mono ?_)); rintro e w1 ⟨rfl, S, m1⟩; have Z := Z.mv m1 hgb; have M := M.trans m1; clear m1; obtain ⟨z0, z1, z2, f0, f1, f2⟩ := Z.cells) | (go_at_call 91; (first | (with_reducible refine (T0.out _ S).mono ?_)); rintro e w1 ⟨rfl, S, m1⟩; have Z := Z.mv m1 hgb; have M := M.trans m1; clear m1; obtain ⟨z0, z1, z2, f0, f1, f2⟩ := Z.cells) | (go_at_call 97; ((with_reducible refine (CS.out _).mono ?_); rintro e w1 ⟨he, b1⟩; unfold tokV at he; subst he; have Z := Z.below b1 (lt_of_block Z); have M := M.then_ b1 M.size; have S := S.below b1 S.lt; clear b1; obtain ⟨z0, z1, z2, f0, f1, f2⟩ := Z.cells)))
   refine bodyPost_ret (v := .tuple #[tokV (kd) (tx) (0), .bool true]) (by simp [results, tokV, Tryz.results50, go_sem, z0, z1, z2]) rfl ⟨by rw [HE.out]; rfl, sc_stores (by rw [HE.out]; exact S) hgb _ _ _, tz_stores M (Nat.le_refl _) _ _ _⟩
theorem next_tok (hC : Tk.Chr l) (hm : l.length <= 65000) (hk : k < l.length) (hp : pl.data.toList = l.map Tk.p8) (hw : Ru.whiB (Ru.g l k) = false) (ho : Tk.opn l k = false) (S : Sc w g A cap l pl k) :
 Calls Tryz.prog 50 #[.pointer (some ⟨g, 0, none⟩)] w (Stp g A cap l pl (Tk.nxt l k).2.2.2 (NxtV (Tk.nxt l k)) w) := by
 by_cases c1 : Ru.g l k = 34 ∨ Ru.g l k = 39
 ·exact next_quoted hC hm hk hp hw ho c1 S
 by_cases c2 : Ru.g l k = 35 /\ (Ru.witB (Tk.at' l (k + 1)) = true ∨ Tk.esc l (k + 1) = true)
 ·exact next_hash hC hm hk hp hw ho c2.1 c2.2 S
 by_cases c3 : 0 < Tk.nlen l k
 ·have h35 : Ru.g l k ≠ 35 := fun e => by have := (Tk.nlen_num c3).2; rw [e] at this; exact absurd this (by decide)
  exact next_number hC hm hk hp hw ho (fun e => c1 (.inl e)) (fun e => c1 (.inr e)) h35 c3 S
 have hpast : Tk.Past l k := ⟨fun h => c1 (.inl h), fun h => c1 (.inr h),
  fun h => ⟨by rw [Bool.eq_false_iff]; exact fun h2 => c2 ⟨h, .inl h2⟩, by rw [Bool.eq_false_iff]; exact fun h2 => c2 ⟨h, .inr h2⟩⟩,
  fun _ => Nat.eq_zero_of_not_pos c3⟩
 by_cases c4 : Ru.g l k = 64 /\ Tk.begs l (k + 1) = true
 ·exact next_atkey hC hm hk hp hw ho c4.1 c4.2 S
 have h64 : Ru.g l k = 64 -> Tk.begs l (k + 1) = false := fun h => by rw [Bool.eq_false_iff]; exact fun h2 => c4 ⟨h, h2⟩
 cases c5 : Tk.begs l k
 ·exact next_sgl hC hm hk hp hw ho hpast h64 c5 S
 ·exact next_word hC hm hk hp hw ho hpast h64 c5 S
end
theorem Tryz.info8 : (Tryz.prog.info? 5).map (fun i => (i.zero, i.size, i.bytes)) = some (some (.int .u8 0), 1, 1) := by kernel_rfl
namespace Tk
open Ru
def p8I (c : Int) : Int := min c 128
def done8 (l : List Int) (k : Nat) : List Int := (l.take k).map p8I ++ List.replicate (l.length - k) 0
theorem done8_len {l : List Int} {k : Nat} (h : k <= l.length) : (done8 l k).length = l.length := by unfold done8; simp; omega
theorem done8_zero (l : List Int) : done8 l 0 = List.replicate l.length 0 := by unfold done8; simp
theorem done8_all (l : List Int) : done8 l l.length = l.map p8I := by unfold done8; simp
theorem done8_next {l : List Int} {k : Nat} (h : k < l.length) : done8 l (k + 1) = (done8 l k).set k (p8I (g l k)) := by
 unfold done8
 rw [take_g h, List.map_append, List.set_append_right _ _ (by simp; omega)]
 have e1 : k - ((l.take k).map p8I).length = 0 := by simp; omega
 obtain ⟨m, hm⟩ : ∃ m, l.length - k = m + 1 := ⟨l.length - k - 1, by omega⟩
 rw [e1, hm, show l.length - (k + 1) = m by omega, List.replicate_succ, List.set_cons_zero, List.append_assoc]
 rfl
def plainT (l : List Int) : ByteArray := strOfNums (l.map p8I)
theorem plainT_data (l : List Int) : (plainT l).data.toList = l.map p8 := by
 unfold plainT strOfNums
 simp [p8, p8I]
end Tk
def NewS (l : List Int) (w : World) (e : Ending) (w' : World) : Prop :=
 ∃ (g : Nat) (A : Option Addr) (cap : Nat), e = .returned (.pointer (some ⟨g, 0, none⟩)) /\ w.heap.size <= g /\ Sc w' g A cap l (Tk.plainT l) 0 /\ Below w.heap.size w w'
def NewAt (l : List Int) (w : World) (gx cp : Nat) (v11 : Value) (wr : World) : Prop :=
 ∃ k : Nat, k <= l.length /\ v11 = .int .i64 k /\ Hid (wr.ownsRow w.heap.size 5 1 (.slice (some ⟨gx, 0, none⟩) l.length cp) l.length (nums .u8 (Tk.done8 l k))) /\ Hid (Below w.heap.size w wr)
theorem set_nums {k : IntKind} (l : List Int) (j : Nat) (x : Int) : (nums k l).set j (.int k x) = nums k (l.set j x) := by unfold nums; rw [List.map_set]
theorem own_conv {w : World} {B gx cp n : Nat} {l : List Int} (h : w.ownsRow B 5 1 (.slice (some ⟨gx, 0, none⟩) n cp) n (nums .u8 l)) (hn : n = l.length) : (convert 22 9 (.slice (some ⟨gx, 0, none⟩) n cp)).run Tryz.prog w = .ok (.string (strOfNums l)) w := by
 subst hn
 exact conv_bytes cp (Bs.of_own h)
theorem newScanner_any (l : List Int) (hC : Tk.Chr l) (A : Option Addr) (cap : Nat) (w : World) (hm : l.length <= 65536) (hA : Bs w w.heap.size .i32 A l) :
 Calls Tryz.prog 47 #[.slice A l.length cap] w (NewS l w) := by
 obtain ⟨i0, hi, hz0, hz1, hz2⟩ := info_parts Tryz.info8
 have HA := Lib.hid hA
 have HC := Lib.hid hC
 clear hA hC
 go_enter Tryz.func47, Tryz.ntmps47
 go_wp2_with (at_make; refine wpList_make_full _ rfl _ _ 22 rfl w.heap.size 5 i0 (.int .u8 0) 1 Tryz.underlying22 hi hz0 hz1 .i64 .i64 _ _ l.length rfl rfl rfl rfl (by rw [hz2]; omega) (by unfold maxLen; omega) (Nat.le_refl _) ?_; intro w1 hown1 hgrow1)
 have HO1 : Hid (w1.ownsRow w.heap.size 5 1 (.slice (some ⟨w.heap.size, 0, none⟩) l.length l.length) l.length (nums .u8 (Tk.done8 l 0))) := Lib.hid (by
  have e : (madeCells (Value.int .u8 0).cells (l.length * 1)).toList = nums .u8 (Tk.done8 l 0) := by
   rw [Tk.done8_zero, Nat.mul_one]
   unfold nums
   rw [List.map_replicate]
   exact toList_madeCells_one _ _
  rw [<- e]; exact hown1)
 have HB1 : Hid (Below w.heap.size w w1) := Lib.hid ((Below.refl _ _).grown hgrow1 (Nat.le_refl _) (by simp))
 clear hown1 hgrow1
 go_wp2_with fail
 go_loopw [11] (fun v11 wr => NewAt l w w.heap.size l.length v11 wr) (fun v11 _ => l.length - (RowKit.intOf v11).toNat)
 case atStart => exact ⟨0, Nat.zero_le _, rfl, HO1, HB1⟩
 case round =>
  obtain ⟨k, hk, rfl, HO, HB⟩ := hrel
  clear HO1 HB1
  by_cases hlt : k < l.length
  ·obtain ⟨b, off, rfl, hb, hp⟩ := HA.out (by omega)
   have hcell := (HB.out.cell (p := ⟨b, off + k, none⟩) hb).trans (hp k hlt)
   have hy := HC.out.g hlt
   have hold : ∃ u, wr.cell? ⟨w.heap.size, k, none⟩ = some (.int .u8 u) := ⟨_, (HO.out.cellAt k (by omega)).trans (nums_get (by rw [Tk.done8_len hk]; exact hlt))⟩
   obtain ⟨u, hu⟩ := hold
   have hf := HO.out.frozenAt k
   have HX : Hid ((Tk.done8 l (k + 1)) = (Tk.done8 l k).set k (Tk.p8I (Ru.g l k))) := Lib.hid (Tk.done8_next hlt)
   obtain ⟨y0, y1⟩ := hy
   clear hp
   generalize Ru.g l k = y at *
   go_wp2_with fail
   go_roundw
   case rel => exact ⟨k + 1, by omega, by go_num, Lib.hid (by rw [HX.out, <- set_nums]; exact (HO.out.stored k _).1), Lib.hid (HB.out.setCell (Nat.le_refl _) _)⟩
   case measure => simp [RowKit.intOf]; omega
  ·have hk' : k = l.length := by omega
   have HO2 : Hid (wr.ownsRow w.heap.size 5 1 (.slice (some ⟨w.heap.size, 0, none⟩) l.length l.length) l.length (nums .u8 (l.map Tk.p8I))) := Lib.hid (by have h := HO.out; rw [hk', Tk.done8_all] at h; exact h)
   have cv := own_conv HO2.out (by simp)
   rw [show strOfNums (l.map Tk.p8I) = Tk.plainT l from rfl] at cv
   have hsz := HB.out.size
   clear HO HO2
   obtain ⟨pl, hpl⟩ : ∃ pl, pl = Tk.plainT l := ⟨_, rfl⟩
   rw [<- hpl] at cv
   have HPL := Lib.hid hpl
   clear hpl
   go_wp2_with fail
   go_ret
   exact ⟨wr.heap.size, A, cap, rfl, hsz, ⟨by rw [<- HPL.out]; exact heap_alloc_new wr _, ((HA.out.below HB.out).more hsz).below ((Below.refl _ _).alloc (Nat.le_refl _) _)⟩, HB.out.alloc hsz _⟩
end Go.Proofs.YtllmjggejbdpcaaGreatDoor
