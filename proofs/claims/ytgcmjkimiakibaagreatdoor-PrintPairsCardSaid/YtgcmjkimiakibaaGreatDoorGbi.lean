/-
  The walk of the scanner's next: gaps.
-/
import Derived.Test.YtgcmjkimiakibaaGreatDoorGbc
import Derived.Test.YtgcmjkimiakibaaGreatDoorGbd
import Derived.Test.YtgcmjkimiakibaaGreatDoorGbh
namespace Go.Proofs.YtgcmjkimiakibaaGreatDoor
open Go.RowKit

section
variable {w : World} {g cap k : Nat} {A : Option Addr} {l : List Int} {pl : ByteArray}

/-- what next is of a gap -/
def GapV (b : Bool) : Value := .tuple #[tokV (if b = true then 1 else 0) ⟨#[]⟩ 0, .bool b]
set_option maxRecDepth 100000 in
set_option maxHeartbeats 4000000 in
theorem next_gap (hC : Tk.Chr l) (hm : l.length ≤ 65000) (hk : k ≤ l.length) (hg : Ru.whiB (Tk.at' l k) = true ∨ Tk.opn l k = true) (S : Sc w g A cap l pl k) :
    Calls Tryz.prog 18 #[.pointer (some ⟨g, 0, none⟩)] w (Stp g A cap l pl (Tk.sp l k false).1 (GapV (Tk.sp l k false).2) w) := by
  have hgb := S.lt
  have S := S.alloc (.cells #[.int .i64 0, .string ⟨#[]⟩, .int .i64 0] 32)
  have M := (Mv.refl g w).alloc (.cells #[.int .i64 0, .string ⟨#[]⟩, .int .i64 0] 32)
  have Z := Tz.new w
  have C0 : Hid (∀ w', Sc w' g A cap l pl k → Calls Tryz.prog 17 #[.pointer (some ⟨g, 0, none⟩), .int .i64 0] w' (Stp g A cap l pl k (.int .i32 (Tk.at' l k)) w')) := Lib.hid fun w' h => peek_any 0 0 rfl (by omega) hk (by omega) h
  have O0 : Hid (∀ w', Sc w' g A cap l pl k → Calls Tryz.prog 34 #[.pointer (some ⟨g, 0, none⟩)] w' (Stp g A cap l pl k (.bool (Tk.opn l k)) w')) := Lib.hid fun w' h => opens_any (by omega) hk h
  have P0 : Hid (∀ w', Sc w' g A cap l pl k → Calls Tryz.prog 35 #[.pointer (some ⟨g, 0, none⟩)] w' (Stp g A cap l pl (Tk.sp l k false).1 (.bool (Tk.sp l k false).2) w')) := Lib.hid fun w' h => passGap_any hC.pos (by omega) hk h
  clear hC
  generalize Tk.at' l k = c at *
  generalize Tk.opn l k = o at *
  obtain ⟨s, HE⟩ : ∃ s, Hid (Tk.sp l k false = s) := ⟨_, Lib.hid rfl⟩
  rw [HE.out] at P0
  obtain ⟨j, b⟩ := s
  simp only at P0
  cases hw : Ru.whiB c
  · have ho : o = true := by
      rcases hg with hg | hg
      · rw [hw] at hg; cases hg
      · exact hg
    subst ho
    clear hg
    cases b
    · go_enter Tryz.func18, Tryz.ntmps18
      go_wp2_with (first | (go_at_call 17; (first | (with_reducible refine (C0.out _ S).mono ?_)); rintro e w1 ⟨rfl, S, m1⟩; have Z := Z.mv m1 hgb; have M := M.trans m1; clear m1; obtain ⟨z0, z1, z2, f0, f1, f2⟩ := Z.cells) | (go_at_call 33; ((with_reducible refine (white_any _ _).mono ?_); rintro e w1 ⟨rfl, rfl⟩)) | (go_at_call 34; (first | (with_reducible refine (O0.out _ S).mono ?_)); rintro e w1 ⟨rfl, S, m1⟩; have Z := Z.mv m1 hgb; have M := M.trans m1; clear m1; obtain ⟨z0, z1, z2, f0, f1, f2⟩ := Z.cells) | (go_at_call 35; (first | (with_reducible refine (P0.out _ S).mono ?_)); rintro e w1 ⟨rfl, S, m1⟩; have Z := Z.mv m1 hgb; have M := M.trans m1; clear m1; obtain ⟨z0, z1, z2, f0, f1, f2⟩ := Z.cells))
      refine bodyPost_ret (v := .tuple #[tokV (0) (⟨#[]⟩) (0), .bool false]) (by simp [results, tokV, Tryz.results18, go_sem, z0, z1, z2]) rfl ⟨by rw [HE.out]; rfl, sc_stores (by rw [HE.out]; exact S) hgb _ _ _, tz_stores M (Nat.le_refl _) _ _ _⟩
    · go_enter Tryz.func18, Tryz.ntmps18
      go_wp2_with (first | (go_at_call 17; (first | (with_reducible refine (C0.out _ S).mono ?_)); rintro e w1 ⟨rfl, S, m1⟩; have Z := Z.mv m1 hgb; have M := M.trans m1; clear m1; obtain ⟨z0, z1, z2, f0, f1, f2⟩ := Z.cells) | (go_at_call 33; ((with_reducible refine (white_any _ _).mono ?_); rintro e w1 ⟨rfl, rfl⟩)) | (go_at_call 34; (first | (with_reducible refine (O0.out _ S).mono ?_)); rintro e w1 ⟨rfl, S, m1⟩; have Z := Z.mv m1 hgb; have M := M.trans m1; clear m1; obtain ⟨z0, z1, z2, f0, f1, f2⟩ := Z.cells) | (go_at_call 35; (first | (with_reducible refine (P0.out _ S).mono ?_)); rintro e w1 ⟨rfl, S, m1⟩; have Z := Z.mv m1 hgb; have M := M.trans m1; clear m1; obtain ⟨z0, z1, z2, f0, f1, f2⟩ := Z.cells))
      refine bodyPost_ret (v := .tuple #[tokV (1) (⟨#[]⟩) (0), .bool true]) (by simp [results, tokV, Tryz.results18, go_sem, z0, z1, z2]) rfl ⟨by rw [HE.out]; rfl, sc_stores (by rw [HE.out]; exact S) hgb _ _ _, tz_stores M (Nat.le_refl _) _ _ _⟩
  · clear hg
    cases b
    · go_enter Tryz.func18, Tryz.ntmps18
      go_wp2_with (first | (go_at_call 17; (first | (with_reducible refine (C0.out _ S).mono ?_)); rintro e w1 ⟨rfl, S, m1⟩; have Z := Z.mv m1 hgb; have M := M.trans m1; clear m1; obtain ⟨z0, z1, z2, f0, f1, f2⟩ := Z.cells) | (go_at_call 33; ((with_reducible refine (white_any _ _).mono ?_); rintro e w1 ⟨rfl, rfl⟩)) | (go_at_call 34; (first | (with_reducible refine (O0.out _ S).mono ?_)); rintro e w1 ⟨rfl, S, m1⟩; have Z := Z.mv m1 hgb; have M := M.trans m1; clear m1; obtain ⟨z0, z1, z2, f0, f1, f2⟩ := Z.cells) | (go_at_call 35; (first | (with_reducible refine (P0.out _ S).mono ?_)); rintro e w1 ⟨rfl, S, m1⟩; have Z := Z.mv m1 hgb; have M := M.trans m1; clear m1; obtain ⟨z0, z1, z2, f0, f1, f2⟩ := Z.cells))
      refine bodyPost_ret (v := .tuple #[tokV (0) (⟨#[]⟩) (0), .bool false]) (by simp [results, tokV, Tryz.results18, go_sem, z0, z1, z2]) rfl ⟨by rw [HE.out]; rfl, sc_stores (by rw [HE.out]; exact S) hgb _ _ _, tz_stores M (Nat.le_refl _) _ _ _⟩
    · go_enter Tryz.func18, Tryz.ntmps18
      go_wp2_with (first | (go_at_call 17; (first | (with_reducible refine (C0.out _ S).mono ?_)); rintro e w1 ⟨rfl, S, m1⟩; have Z := Z.mv m1 hgb; have M := M.trans m1; clear m1; obtain ⟨z0, z1, z2, f0, f1, f2⟩ := Z.cells) | (go_at_call 33; ((with_reducible refine (white_any _ _).mono ?_); rintro e w1 ⟨rfl, rfl⟩)) | (go_at_call 34; (first | (with_reducible refine (O0.out _ S).mono ?_)); rintro e w1 ⟨rfl, S, m1⟩; have Z := Z.mv m1 hgb; have M := M.trans m1; clear m1; obtain ⟨z0, z1, z2, f0, f1, f2⟩ := Z.cells) | (go_at_call 35; (first | (with_reducible refine (P0.out _ S).mono ?_)); rintro e w1 ⟨rfl, S, m1⟩; have Z := Z.mv m1 hgb; have M := M.trans m1; clear m1; obtain ⟨z0, z1, z2, f0, f1, f2⟩ := Z.cells))
      refine bodyPost_ret (v := .tuple #[tokV (1) (⟨#[]⟩) (0), .bool true]) (by simp [results, tokV, Tryz.results18, go_sem, z0, z1, z2]) rfl ⟨by rw [HE.out]; rfl, sc_stores (by rw [HE.out]; exact S) hgb _ _ _, tz_stores M (Nat.le_refl _) _ _ _⟩
end
end Go.Proofs.YtgcmjkimiakibaaGreatDoor

/-
  The walk of the scanner's next: texts in quotes, hashes, numbers.
-/
namespace Go.Proofs.YtgcmjkimiakibaaGreatDoor
open Go.RowKit

/-- what next is of a token -/
def NxtV (r : Int × ByteArray × Int × Nat) : Value := .tuple #[tokV r.1 r.2.1 r.2.2.1, .bool true]
/-- what stands for itself -/
theorem Tk.nxt_sgl {l : List Int} {k : Nat} (h : Tk.Past l k) (h64 : Ru.g l k = 64 → Tk.begs l (k + 1) = false) (hb : Tk.begs l k = false) : Tk.nxt l k = ((Tk.sgl (Ru.g l k)).1, (Tk.sgl (Ru.g l k)).2, 0, k + 1) := by
  rw [Tk.nxt_past h]
  unfold Tk.rest Tk.sgl
  rw [if_neg (fun hh => by rw [h64 hh.1] at hh; exact absurd hh.2 (by decide)), if_neg (by rw [hb]; decide)]
  split
  · rfl
  · split
    · rfl
    · split <;> rfl
theorem Tk.nxt_num {l : List Int} {k : Nat} (h1 : Ru.g l k ≠ 34) (h2 : Ru.g l k ≠ 39) (h3 : Ru.g l k ≠ 35) (h : 0 < Tk.nlen l k) : Tk.nxt l k = ((Tk.nbr l (k + Tk.nlen l k)).1, (Tk.nbr l (k + Tk.nlen l k)).2.1, Tk.nval l k, (Tk.nbr l (k + Tk.nlen l k)).2.2) := by
  unfold Tk.nxt Tk.nbr
  rw [if_neg (by omega), if_neg (fun hh => h3 hh.1), if_pos ⟨(Tk.nlen_num h).2, h⟩]
  split
  · rfl
  · split <;> rfl
theorem Tk.nxt_word {l : List Int} {k : Nat} (h : Tk.Past l k) (h64 : Ru.g l k = 64 → Tk.begs l (k + 1) = false) (hb : Tk.begs l k = true) : Tk.nxt l k = ((Tk.wrd l k).1, Tk.str (Tk.name l k).1, 0, (Tk.wrd l k).2) := by
  rw [Tk.nxt_past h]
  unfold Tk.rest Tk.wrd
  rw [if_neg (fun hh => by rw [h64 hh.1] at hh; exact absurd hh.2 (by decide)), if_pos hb]
  split <;> rfl

section
variable {w : World} {g cap k : Nat} {A : Option Addr} {l : List Int} {pl : ByteArray}
set_option maxRecDepth 100000 in
set_option maxHeartbeats 4000000 in
theorem next_quoted (hC : Tk.Chr l) (hm : l.length ≤ 65000) (hk : k < l.length) (_hp : pl.data.toList = l.map Tk.p8) (hw : Ru.whiB (Ru.g l k) = false) (ho : Tk.opn l k = false) (hq : Ru.g l k = 34 ∨ Ru.g l k = 39) (S : Sc w g A cap l pl k) :
    Calls Tryz.prog 18 #[.pointer (some ⟨g, 0, none⟩)] w (Stp g A cap l pl (Tk.nxt l k).2.2.2 (NxtV (Tk.nxt l k)) w) := by
  have hgb := S.lt
  have S := S.alloc (.cells #[.int .i64 0, .string ⟨#[]⟩, .int .i64 0] 32)
  have M := (Mv.refl g w).alloc (.cells #[.int .i64 0, .string ⟨#[]⟩, .int .i64 0] 32)
  have Z := Tz.new w
  have hg := hC.g hk
  have C0 : Hid (∀ w', Sc w' g A cap l pl k → Calls Tryz.prog 17 #[.pointer (some ⟨g, 0, none⟩), .int .i64 0] w' (Stp g A cap l pl k (.int .i32 (Ru.g l k)) w')) := Lib.hid fun w' h => by have := peek_any 0 0 rfl (show l.length ≤ 65536 by omega) (Nat.le_of_lt hk) (by omega) h; rwa [show k + 0 = k from rfl, Tk.at_in hk] at this
  have O0 : Hid (∀ w', Sc w' g A cap l pl k → Calls Tryz.prog 34 #[.pointer (some ⟨g, 0, none⟩)] w' (Stp g A cap l pl k (.bool false) w')) := Lib.hid fun w' h => by have := opens_any (show l.length ≤ 65536 by omega) (Nat.le_of_lt hk) h; rwa [ho] at this
  have T0 : Hid (∀ w', Sc w' g A cap l pl k → Calls Tryz.prog 39 #[.pointer (some ⟨g, 0, none⟩)] w' (Stp g A cap l pl (k + 1) (.int .i32 (Ru.g l k)) w')) := Lib.hid fun w' h => by have := take_in (show l.length ≤ 65536 by omega) hk h; rwa [Tk.at_in hk] at this
  have Q0 : Hid (∀ w', Sc w' g A cap l pl k → Calls Tryz.prog 36 #[.pointer (some ⟨g, 0, none⟩)] w' (Stp g A cap l pl (Tk.qq l (Ru.g l k) (k + 1)).2.2 (tokV (Tk.qq l (Ru.g l k) (k + 1)).1 (Tk.str (Tk.qq l (Ru.g l k) (k + 1)).2.1) 0) w')) := Lib.hid fun w' h => quoted_any hC hm hk hq h
  have HE : Hid (Tk.nxt l k = ((Tk.qq l (Ru.g l k) (k + 1)).1, Tk.str (Tk.qq l (Ru.g l k) (k + 1)).2.1, 0, (Tk.qq l (Ru.g l k) (k + 1)).2.2)) := Lib.hid (by unfold Tk.nxt; rw [if_pos hq])
  clear _hp ho hC hg T0
  generalize Ru.g l k = c at *
  generalize Tk.qq l c (k + 1) = q at *
  obtain ⟨kd, ds, j2⟩ := q
  simp only at Q0 HE
  rcases hq with rfl | rfl
  all_goals
    go_enter Tryz.func18, Tryz.ntmps18
    go_wp2_with (first | (go_at_call 17; (first | (with_reducible refine (C0.out _ S).mono ?_)); rintro e w1 ⟨rfl, S, m1⟩; have Z := Z.mv m1 hgb; have M := M.trans m1; clear m1; obtain ⟨z0, z1, z2, f0, f1, f2⟩ := Z.cells) | (go_at_call 33; ((with_reducible refine (white_any _ _).mono ?_); rintro e w1 ⟨rfl, rfl⟩)) | (go_at_call 34; (first | (with_reducible refine (O0.out _ S).mono ?_)); rintro e w1 ⟨rfl, S, m1⟩; have Z := Z.mv m1 hgb; have M := M.trans m1; clear m1; obtain ⟨z0, z1, z2, f0, f1, f2⟩ := Z.cells) | (go_at_call 36; (first | (with_reducible refine (Q0.out _ S).mono ?_)); rintro e w1 ⟨he, S, m1⟩; unfold tokV at he; subst he; have Z := Z.mv m1 hgb; have M := M.trans m1; clear m1; obtain ⟨z0, z1, z2, f0, f1, f2⟩ := Z.cells))
    refine bodyPost_ret (v := .tuple #[tokV (kd) (Tk.str ds) (0), .bool true]) (by simp [results, tokV, Tryz.results18, go_sem, z0, z1, z2]) rfl ⟨by rw [HE.out]; rfl, sc_stores (by rw [HE.out]; exact S) hgb _ _ _, tz_stores M (Nat.le_refl _) _ _ _⟩

set_option maxRecDepth 100000 in
set_option maxHeartbeats 4000000 in
theorem next_hash (hC : Tk.Chr l) (hm : l.length ≤ 65000) (hk : k < l.length) (_hp : pl.data.toList = l.map Tk.p8) (hw : Ru.whiB (Ru.g l k) = false) (ho : Tk.opn l k = false) (hq : Ru.g l k = 35) (hr : Ru.witB (Tk.at' l (k + 1)) = true ∨ Tk.esc l (k + 1) = true) (S : Sc w g A cap l pl k) :
    Calls Tryz.prog 18 #[.pointer (some ⟨g, 0, none⟩)] w (Stp g A cap l pl (Tk.nxt l k).2.2.2 (NxtV (Tk.nxt l k)) w) := by
  have hgb := S.lt
  have S := S.alloc (.cells #[.int .i64 0, .string ⟨#[]⟩, .int .i64 0] 32)
  have M := (Mv.refl g w).alloc (.cells #[.int .i64 0, .string ⟨#[]⟩, .int .i64 0] 32)
  have Z := Tz.new w
  have hg := hC.g hk
  have C0 : Hid (∀ w', Sc w' g A cap l pl k → Calls Tryz.prog 17 #[.pointer (some ⟨g, 0, none⟩), .int .i64 0] w' (Stp g A cap l pl k (.int .i32 (Ru.g l k)) w')) := Lib.hid fun w' h => by have := peek_any 0 0 rfl (show l.length ≤ 65536 by omega) (Nat.le_of_lt hk) (by omega) h; rwa [show k + 0 = k from rfl, Tk.at_in hk] at this
  have O0 : Hid (∀ w', Sc w' g A cap l pl k → Calls Tryz.prog 34 #[.pointer (some ⟨g, 0, none⟩)] w' (Stp g A cap l pl k (.bool false) w')) := Lib.hid fun w' h => by have := opens_any (show l.length ≤ 65536 by omega) (Nat.le_of_lt hk) h; rwa [ho] at this
  have T0 : Hid (∀ w', Sc w' g A cap l pl k → Calls Tryz.prog 39 #[.pointer (some ⟨g, 0, none⟩)] w' (Stp g A cap l pl (k + 1) (.int .i32 (Ru.g l k)) w')) := Lib.hid fun w' h => by have := take_in (show l.length ≤ 65536 by omega) hk h; rwa [Tk.at_in hk] at this
  have C1 : Hid (∀ w', Sc w' g A cap l pl k → Calls Tryz.prog 17 #[.pointer (some ⟨g, 0, none⟩), .int .i64 1] w' (Stp g A cap l pl k (.int .i32 (Tk.at' l (k + 1))) w')) := Lib.hid fun w' h => peek_any 1 1 rfl (by omega) (Nat.le_of_lt hk) (by omega) h
  have E1 : Hid (∀ w', Sc w' g A cap l pl k → Calls Tryz.prog 38 #[.pointer (some ⟨g, 0, none⟩), .int .i64 1] w' (Stp g A cap l pl k (.bool (Tk.esc l (k + 1))) w')) := Lib.hid fun w' h => escapes_any 1 1 rfl hC.pos (by omega) (Nat.le_of_lt hk) (by omega) h
  have X1 : Hid (∀ w', Sc w' g A cap l pl (k + 1) → Calls Tryz.prog 40 #[.pointer (some ⟨g, 0, none⟩)] w' (Stp g A cap l pl (Tk.name l (k + 1)).2 (.string (Tk.str (Tk.name l (k + 1)).1)) w')) := Lib.hid fun w' h => name_any hC hm hk h
  have HE : Hid (Tk.nxt l k = (5, Tk.str (Tk.name l (k + 1)).1, 0, (Tk.name l (k + 1)).2)) := Lib.hid (by unfold Tk.nxt; rw [if_neg (by omega), if_pos ⟨hq, hr⟩])
  clear _hp ho hC hg
  generalize Ru.g l k = c at *
  generalize Tk.at' l (k + 1) = a1 at *
  generalize Tk.esc l (k + 1) = b1 at *
  generalize Tk.name l (k + 1) = nm at *
  obtain ⟨ds, j2⟩ := nm
  simp only at X1 HE
  subst hq
  cases hwi : Ru.witB a1
  · have hb : b1 = true := by
      rcases hr with hr | hr
      · rw [hwi] at hr; cases hr
      · exact hr
    subst hb
    clear hr
    go_enter Tryz.func18, Tryz.ntmps18
    go_wp2_with (first | (go_at_call 17; (first | (with_reducible refine (C0.out _ S).mono ?_) | (with_reducible refine (C1.out _ S).mono ?_)); rintro e w1 ⟨rfl, S, m1⟩; have Z := Z.mv m1 hgb; have M := M.trans m1; clear m1; obtain ⟨z0, z1, z2, f0, f1, f2⟩ := Z.cells) | (go_at_call 33; ((with_reducible refine (white_any _ _).mono ?_); rintro e w1 ⟨rfl, rfl⟩)) | (go_at_call 37; ((with_reducible refine (within_any _ _).mono ?_); rintro e w1 ⟨rfl, rfl⟩)) | (go_at_call 34; (first | (with_reducible refine (O0.out _ S).mono ?_)); rintro e w1 ⟨rfl, S, m1⟩; have Z := Z.mv m1 hgb; have M := M.trans m1; clear m1; obtain ⟨z0, z1, z2, f0, f1, f2⟩ := Z.cells) | (go_at_call 38; (first | (with_reducible refine (E1.out _ S).mono ?_)); rintro e w1 ⟨rfl, S, m1⟩; have Z := Z.mv m1 hgb; have M := M.trans m1; clear m1; obtain ⟨z0, z1, z2, f0, f1, f2⟩ := Z.cells) | (go_at_call 39; (first | (with_reducible refine (T0.out _ S).mono ?_)); rintro e w1 ⟨rfl, S, m1⟩; have Z := Z.mv m1 hgb; have M := M.trans m1; clear m1; obtain ⟨z0, z1, z2, f0, f1, f2⟩ := Z.cells) | (go_at_call 40; (first | (with_reducible refine (X1.out _ S).mono ?_)); rintro e w1 ⟨rfl, S, m1⟩; have Z := Z.mv m1 hgb; have M := M.trans m1; clear m1; obtain ⟨z0, z1, z2, f0, f1, f2⟩ := Z.cells))
    refine bodyPost_ret (v := .tuple #[tokV (5) (Tk.str ds) (0), .bool true]) (by simp [results, tokV, Tryz.results18, go_sem, z0, z1, z2]) rfl ⟨by rw [HE.out]; rfl, sc_stores (by rw [HE.out]; exact S) hgb _ _ _, tz_stores M (Nat.le_refl _) _ _ _⟩
  · clear hr
    go_enter Tryz.func18, Tryz.ntmps18
    go_wp2_with (first | (go_at_call 17; (first | (with_reducible refine (C0.out _ S).mono ?_) | (with_reducible refine (C1.out _ S).mono ?_)); rintro e w1 ⟨rfl, S, m1⟩; have Z := Z.mv m1 hgb; have M := M.trans m1; clear m1; obtain ⟨z0, z1, z2, f0, f1, f2⟩ := Z.cells) | (go_at_call 33; ((with_reducible refine (white_any _ _).mono ?_); rintro e w1 ⟨rfl, rfl⟩)) | (go_at_call 37; ((with_reducible refine (within_any _ _).mono ?_); rintro e w1 ⟨rfl, rfl⟩)) | (go_at_call 34; (first | (with_reducible refine (O0.out _ S).mono ?_)); rintro e w1 ⟨rfl, S, m1⟩; have Z := Z.mv m1 hgb; have M := M.trans m1; clear m1; obtain ⟨z0, z1, z2, f0, f1, f2⟩ := Z.cells) | (go_at_call 38; (first | (with_reducible refine (E1.out _ S).mono ?_)); rintro e w1 ⟨rfl, S, m1⟩; have Z := Z.mv m1 hgb; have M := M.trans m1; clear m1; obtain ⟨z0, z1, z2, f0, f1, f2⟩ := Z.cells) | (go_at_call 39; (first | (with_reducible refine (T0.out _ S).mono ?_)); rintro e w1 ⟨rfl, S, m1⟩; have Z := Z.mv m1 hgb; have M := M.trans m1; clear m1; obtain ⟨z0, z1, z2, f0, f1, f2⟩ := Z.cells) | (go_at_call 40; (first | (with_reducible refine (X1.out _ S).mono ?_)); rintro e w1 ⟨rfl, S, m1⟩; have Z := Z.mv m1 hgb; have M := M.trans m1; clear m1; obtain ⟨z0, z1, z2, f0, f1, f2⟩ := Z.cells))
    refine bodyPost_ret (v := .tuple #[tokV (5) (Tk.str ds) (0), .bool true]) (by simp [results, tokV, Tryz.results18, go_sem, z0, z1, z2]) rfl ⟨by rw [HE.out]; rfl, sc_stores (by rw [HE.out]; exact S) hgb _ _ _, tz_stores M (Nat.le_refl _) _ _ _⟩

set_option maxRecDepth 100000 in
set_option maxHeartbeats 4000000 in
theorem next_number (hC : Tk.Chr l) (hm : l.length ≤ 65000) (hk : k < l.length) (hp : pl.data.toList = l.map Tk.p8) (hw : Ru.whiB (Ru.g l k) = false) (ho : Tk.opn l k = false) (h1 : Ru.g l k ≠ 34) (h2 : Ru.g l k ≠ 39) (h3 : Ru.g l k ≠ 35) (hq : 0 < Tk.nlen l k) (S : Sc w g A cap l pl k) :
    Calls Tryz.prog 18 #[.pointer (some ⟨g, 0, none⟩)] w (Stp g A cap l pl (Tk.nxt l k).2.2.2 (NxtV (Tk.nxt l k)) w) := by
  have hgb := S.lt
  have S := S.alloc (.cells #[.int .i64 0, .string ⟨#[]⟩, .int .i64 0] 32)
  have M := (Mv.refl g w).alloc (.cells #[.int .i64 0, .string ⟨#[]⟩, .int .i64 0] 32)
  have Z := Tz.new w
  have hg := hC.g hk
  have C0 : Hid (∀ w', Sc w' g A cap l pl k → Calls Tryz.prog 17 #[.pointer (some ⟨g, 0, none⟩), .int .i64 0] w' (Stp g A cap l pl k (.int .i32 (Ru.g l k)) w')) := Lib.hid fun w' h => by have := peek_any 0 0 rfl (show l.length ≤ 65536 by omega) (Nat.le_of_lt hk) (by omega) h; rwa [show k + 0 = k from rfl, Tk.at_in hk] at this
  have O0 : Hid (∀ w', Sc w' g A cap l pl k → Calls Tryz.prog 34 #[.pointer (some ⟨g, 0, none⟩)] w' (Stp g A cap l pl k (.bool false) w')) := Lib.hid fun w' h => by have := opens_any (show l.length ≤ 65536 by omega) (Nat.le_of_lt hk) h; rwa [ho] at this
  have T0 : Hid (∀ w', Sc w' g A cap l pl k → Calls Tryz.prog 39 #[.pointer (some ⟨g, 0, none⟩)] w' (Stp g A cap l pl (k + 1) (.int .i32 (Ru.g l k)) w')) := Lib.hid fun w' h => by have := take_in (show l.length ≤ 65536 by omega) hk h; rwa [Tk.at_in hk] at this
  have D0 : Hid (∀ w', Sc w' g A cap l pl k → Calls Tryz.prog 41 #[.pointer (some ⟨g, 0, none⟩)] w' (Stp g A cap l pl k (.int .i64 (Tk.nlen l k : Nat)) w')) := Lib.hid fun w' h => decimal_any hm (Nat.le_of_lt hk) hp h
  have Q0 : Hid (∀ w', Sc w' g A cap l pl k → Calls Tryz.prog 42 #[.pointer (some ⟨g, 0, none⟩)] w' (Stp g A cap l pl (Tk.nbr l (k + Tk.nlen l k)).2.2 (tokV (Tk.nbr l (k + Tk.nlen l k)).1 (Tk.nbr l (k + Tk.nlen l k)).2.1 (Tk.nval l k)) w')) := Lib.hid fun w' h => number_any hC hm (Nat.le_of_lt hk) hp hq h
  have HE := Lib.hid (Tk.nxt_num h1 h2 h3 hq)
  have hnl := Tk.nlen_le l k (Nat.le_of_lt hk)
  clear hp ho hC hg T0
  generalize Ru.g l k = c at *
  generalize Tk.nbr l (k + Tk.nlen l k) = q at *
  generalize Tk.nval l k = v at *
  generalize Tk.nlen l k = n at *
  obtain ⟨kd, tx, j2⟩ := q
  simp only at Q0 HE
  have n1 := Ru.eq_f h1
  have n2 := Ru.eq_f h2
  have n3 := Ru.eq_f h3
  clear h1 h2 h3
  go_enter Tryz.func18, Tryz.ntmps18
  go_wp2_with (first | (go_at_call 17; (first | (with_reducible refine (C0.out _ S).mono ?_)); rintro e w1 ⟨rfl, S, m1⟩; have Z := Z.mv m1 hgb; have M := M.trans m1; clear m1; obtain ⟨z0, z1, z2, f0, f1, f2⟩ := Z.cells) | (go_at_call 33; ((with_reducible refine (white_any _ _).mono ?_); rintro e w1 ⟨rfl, rfl⟩)) | (go_at_call 34; (first | (with_reducible refine (O0.out _ S).mono ?_)); rintro e w1 ⟨rfl, S, m1⟩; have Z := Z.mv m1 hgb; have M := M.trans m1; clear m1; obtain ⟨z0, z1, z2, f0, f1, f2⟩ := Z.cells) | (go_at_call 41; (first | (with_reducible refine (D0.out _ S).mono ?_)); rintro e w1 ⟨rfl, S, m1⟩; have Z := Z.mv m1 hgb; have M := M.trans m1; clear m1; obtain ⟨z0, z1, z2, f0, f1, f2⟩ := Z.cells) | (go_at_call 42; (first | (with_reducible refine (Q0.out _ S).mono ?_)); rintro e w1 ⟨he, S, m1⟩; unfold tokV at he; subst he; have Z := Z.mv m1 hgb; have M := M.trans m1; clear m1; obtain ⟨z0, z1, z2, f0, f1, f2⟩ := Z.cells))
  refine bodyPost_ret (v := .tuple #[tokV (kd) (tx) (v), .bool true]) (by simp [results, tokV, Tryz.results18, go_sem, z0, z1, z2]) rfl ⟨by rw [HE.out]; rfl, sc_stores (by rw [HE.out]; exact S) hgb _ _ _, tz_stores M (Nat.le_refl _) _ _ _⟩
end
end Go.Proofs.YtgcmjkimiakibaaGreatDoor

/-
  The walk of the scanner's next: at-words, names, single characters.
-/
namespace Go.Proofs.YtgcmjkimiakibaaGreatDoor
open Go.RowKit

section
variable {w : World} {g cap k : Nat} {A : Option Addr} {l : List Int} {pl : ByteArray}
set_option maxRecDepth 100000 in
set_option maxHeartbeats 4000000 in
theorem next_atkey (hC : Tk.Chr l) (hm : l.length ≤ 65000) (hk : k < l.length) (hp : pl.data.toList = l.map Tk.p8) (hw : Ru.whiB (Ru.g l k) = false) (ho : Tk.opn l k = false) (hq : Ru.g l k = 64) (hr : Tk.begs l (k + 1) = true) (S : Sc w g A cap l pl k) :
    Calls Tryz.prog 18 #[.pointer (some ⟨g, 0, none⟩)] w (Stp g A cap l pl (Tk.nxt l k).2.2.2 (NxtV (Tk.nxt l k)) w) := by
  have hgb := S.lt
  have S := S.alloc (.cells #[.int .i64 0, .string ⟨#[]⟩, .int .i64 0] 32)
  have M := (Mv.refl g w).alloc (.cells #[.int .i64 0, .string ⟨#[]⟩, .int .i64 0] 32)
  have Z := Tz.new w
  have hg := hC.g hk
  have C0 : Hid (∀ w', Sc w' g A cap l pl k → Calls Tryz.prog 17 #[.pointer (some ⟨g, 0, none⟩), .int .i64 0] w' (Stp g A cap l pl k (.int .i32 (Ru.g l k)) w')) := Lib.hid fun w' h => by have := peek_any 0 0 rfl (show l.length ≤ 65536 by omega) (Nat.le_of_lt hk) (by omega) h; rwa [show k + 0 = k from rfl, Tk.at_in hk] at this
  have O0 : Hid (∀ w', Sc w' g A cap l pl k → Calls Tryz.prog 34 #[.pointer (some ⟨g, 0, none⟩)] w' (Stp g A cap l pl k (.bool false) w')) := Lib.hid fun w' h => by have := opens_any (show l.length ≤ 65536 by omega) (Nat.le_of_lt hk) h; rwa [ho] at this
  have T0 : Hid (∀ w', Sc w' g A cap l pl k → Calls Tryz.prog 39 #[.pointer (some ⟨g, 0, none⟩)] w' (Stp g A cap l pl (k + 1) (.int .i32 (Ru.g l k)) w')) := Lib.hid fun w' h => by have := take_in (show l.length ≤ 65536 by omega) hk h; rwa [Tk.at_in hk] at this
  have D0 : Hid (∀ w', Sc w' g A cap l pl k → Calls Tryz.prog 41 #[.pointer (some ⟨g, 0, none⟩)] w' (Stp g A cap l pl k (.int .i64 (Tk.nlen l k : Nat)) w')) := Lib.hid fun w' h => decimal_any hm (Nat.le_of_lt hk) hp h
  have N1 : Hid (∀ w', Sc w' g A cap l pl k → Calls Tryz.prog 43 #[.pointer (some ⟨g, 0, none⟩), .int .i64 1] w' (Stp g A cap l pl k (.bool (Tk.begs l (k + 1))) w')) := Lib.hid fun w' h => names_any 1 1 rfl hC.pos (by omega) (Nat.le_of_lt hk) (by omega) h
  have X1 : Hid (∀ w', Sc w' g A cap l pl (k + 1) → Calls Tryz.prog 40 #[.pointer (some ⟨g, 0, none⟩)] w' (Stp g A cap l pl (Tk.name l (k + 1)).2 (.string (Tk.str (Tk.name l (k + 1)).1)) w')) := Lib.hid fun w' h => name_any hC hm hk h
  have h0 : Tk.nlen l k = 0 := Nat.eq_zero_of_not_pos (fun h => by have := (Tk.nlen_num h).2; rw [hq] at this; exact absurd this (by decide))
  have HE : Hid (Tk.nxt l k = (4, Tk.str (Tk.name l (k + 1)).1, 0, (Tk.name l (k + 1)).2)) := Lib.hid (by
    unfold Tk.nxt Tk.rest
    rw [if_neg (by omega), if_neg (by omega), if_neg (by omega), if_pos ⟨hq, hr⟩])
  rw [h0] at D0
  rw [hr] at N1
  clear hp ho hC hg h0 hr
  generalize Ru.g l k = c at *
  generalize Tk.name l (k + 1) = nm at *
  obtain ⟨ds, j2⟩ := nm
  simp only at X1 HE
  subst hq
  go_enter Tryz.func18, Tryz.ntmps18
  go_wp2_with (first | (go_at_call 17; (first | (with_reducible refine (C0.out _ S).mono ?_)); rintro e w1 ⟨rfl, S, m1⟩; have Z := Z.mv m1 hgb; have M := M.trans m1; clear m1; obtain ⟨z0, z1, z2, f0, f1, f2⟩ := Z.cells) | (go_at_call 33; ((with_reducible refine (white_any _ _).mono ?_); rintro e w1 ⟨rfl, rfl⟩)) | (go_at_call 34; (first | (with_reducible refine (O0.out _ S).mono ?_)); rintro e w1 ⟨rfl, S, m1⟩; have Z := Z.mv m1 hgb; have M := M.trans m1; clear m1; obtain ⟨z0, z1, z2, f0, f1, f2⟩ := Z.cells) | (go_at_call 41; (first | (with_reducible refine (D0.out _ S).mono ?_)); rintro e w1 ⟨rfl, S, m1⟩; have Z := Z.mv m1 hgb; have M := M.trans m1; clear m1; obtain ⟨z0, z1, z2, f0, f1, f2⟩ := Z.cells) | (go_at_call 43; (first | (with_reducible refine (N1.out _ S).mono ?_)); rintro e w1 ⟨rfl, S, m1⟩; have Z := Z.mv m1 hgb; have M := M.trans m1; clear m1; obtain ⟨z0, z1, z2, f0, f1, f2⟩ := Z.cells) | (go_at_call 39; (first | (with_reducible refine (T0.out _ S).mono ?_)); rintro e w1 ⟨rfl, S, m1⟩; have Z := Z.mv m1 hgb; have M := M.trans m1; clear m1; obtain ⟨z0, z1, z2, f0, f1, f2⟩ := Z.cells) | (go_at_call 40; (first | (with_reducible refine (X1.out _ S).mono ?_)); rintro e w1 ⟨rfl, S, m1⟩; have Z := Z.mv m1 hgb; have M := M.trans m1; clear m1; obtain ⟨z0, z1, z2, f0, f1, f2⟩ := Z.cells))
  refine bodyPost_ret (v := .tuple #[tokV (4) (Tk.str ds) (0), .bool true]) (by simp [results, tokV, Tryz.results18, go_sem, z0, z1, z2]) rfl ⟨by rw [HE.out]; rfl, sc_stores (by rw [HE.out]; exact S) hgb _ _ _, tz_stores M (Nat.le_refl _) _ _ _⟩

set_option maxRecDepth 100000 in
set_option maxHeartbeats 4000000 in
theorem next_word (hC : Tk.Chr l) (hm : l.length ≤ 65000) (hk : k < l.length) (hp : pl.data.toList = l.map Tk.p8) (hw : Ru.whiB (Ru.g l k) = false) (ho : Tk.opn l k = false) (hpast : Tk.Past l k) (h64 : Ru.g l k = 64 → Tk.begs l (k + 1) = false) (hr : Tk.begs l k = true) (S : Sc w g A cap l pl k) :
    Calls Tryz.prog 18 #[.pointer (some ⟨g, 0, none⟩)] w (Stp g A cap l pl (Tk.nxt l k).2.2.2 (NxtV (Tk.nxt l k)) w) := by
  have hgb := S.lt
  have S := S.alloc (.cells #[.int .i64 0, .string ⟨#[]⟩, .int .i64 0] 32)
  have M := (Mv.refl g w).alloc (.cells #[.int .i64 0, .string ⟨#[]⟩, .int .i64 0] 32)
  have Z := Tz.new w
  have hg := hC.g hk
  have C0 : Hid (∀ w', Sc w' g A cap l pl k → Calls Tryz.prog 17 #[.pointer (some ⟨g, 0, none⟩), .int .i64 0] w' (Stp g A cap l pl k (.int .i32 (Ru.g l k)) w')) := Lib.hid fun w' h => by have := peek_any 0 0 rfl (show l.length ≤ 65536 by omega) (Nat.le_of_lt hk) (by omega) h; rwa [show k + 0 = k from rfl, Tk.at_in hk] at this
  have O0 : Hid (∀ w', Sc w' g A cap l pl k → Calls Tryz.prog 34 #[.pointer (some ⟨g, 0, none⟩)] w' (Stp g A cap l pl k (.bool false) w')) := Lib.hid fun w' h => by have := opens_any (show l.length ≤ 65536 by omega) (Nat.le_of_lt hk) h; rwa [ho] at this
  have T0 : Hid (∀ w', Sc w' g A cap l pl k → Calls Tryz.prog 39 #[.pointer (some ⟨g, 0, none⟩)] w' (Stp g A cap l pl (k + 1) (.int .i32 (Ru.g l k)) w')) := Lib.hid fun w' h => by have := take_in (show l.length ≤ 65536 by omega) hk h; rwa [Tk.at_in hk] at this
  have D0 : Hid (∀ w', Sc w' g A cap l pl k → Calls Tryz.prog 41 #[.pointer (some ⟨g, 0, none⟩)] w' (Stp g A cap l pl k (.int .i64 (Tk.nlen l k : Nat)) w')) := Lib.hid fun w' h => decimal_any hm (Nat.le_of_lt hk) hp h
  have N1 : Hid (∀ w', Sc w' g A cap l pl k → Calls Tryz.prog 43 #[.pointer (some ⟨g, 0, none⟩), .int .i64 1] w' (Stp g A cap l pl k (.bool (Tk.begs l (k + 1))) w')) := Lib.hid fun w' h => names_any 1 1 rfl hC.pos (by omega) (Nat.le_of_lt hk) (by omega) h
  have N0 : Hid (∀ w', Sc w' g A cap l pl k → Calls Tryz.prog 43 #[.pointer (some ⟨g, 0, none⟩), .int .i64 0] w' (Stp g A cap l pl k (.bool (Tk.begs l k)) w')) := Lib.hid fun w' h => names_any 0 0 rfl hC.pos (by omega) (Nat.le_of_lt hk) (by omega) h
  have Q0 : Hid (∀ w', Sc w' g A cap l pl k → Calls Tryz.prog 44 #[.pointer (some ⟨g, 0, none⟩)] w' (Stp g A cap l pl (Tk.wrd l k).2 (tokV (Tk.wrd l k).1 (Tk.str (Tk.name l k).1) 0) w')) := Lib.hid fun w' h => word_any hC hm (Nat.le_of_lt hk) h
  have h0 : Tk.nlen l k = 0 := Nat.eq_zero_of_not_pos (fun h => by have := hpast.2.2.2 (Tk.nlen_num h).2; omega)
  have HE := Lib.hid (Tk.nxt_word hpast h64 hr)
  have h35 : Ru.g l k ≠ 35 := fun h => by have := Tk.begs_not hk (.inl h); rw [this] at hr; cases hr
  have n1 := Ru.eq_f hpast.1
  have n2 := Ru.eq_f hpast.2.1
  have n3 := Ru.eq_f h35
  rw [h0] at D0
  rw [hr] at N0
  clear hp ho hC hg h0 hr T0 hpast h35
  generalize Tk.begs l (k + 1) = b1 at *
  generalize Ru.g l k = c at *
  generalize Tk.wrd l k = wd at *
  generalize Tk.str (Tk.name l k).1 = tx at *
  obtain ⟨kd, j2⟩ := wd
  simp only at Q0 HE
  by_cases c64 : c = 64
  · have hb1 := h64 c64
    subst c64
    subst hb1
    clear h64
    go_enter Tryz.func18, Tryz.ntmps18
    go_wp2_with (first | (go_at_call 17; (first | (with_reducible refine (C0.out _ S).mono ?_)); rintro e w1 ⟨rfl, S, m1⟩; have Z := Z.mv m1 hgb; have M := M.trans m1; clear m1; obtain ⟨z0, z1, z2, f0, f1, f2⟩ := Z.cells) | (go_at_call 33; ((with_reducible refine (white_any _ _).mono ?_); rintro e w1 ⟨rfl, rfl⟩)) | (go_at_call 34; (first | (with_reducible refine (O0.out _ S).mono ?_)); rintro e w1 ⟨rfl, S, m1⟩; have Z := Z.mv m1 hgb; have M := M.trans m1; clear m1; obtain ⟨z0, z1, z2, f0, f1, f2⟩ := Z.cells) | (go_at_call 41; (first | (with_reducible refine (D0.out _ S).mono ?_)); rintro e w1 ⟨rfl, S, m1⟩; have Z := Z.mv m1 hgb; have M := M.trans m1; clear m1; obtain ⟨z0, z1, z2, f0, f1, f2⟩ := Z.cells) | (go_at_call 43; (first | (with_reducible refine (N0.out _ S).mono ?_) | (with_reducible refine (N1.out _ S).mono ?_)); rintro e w1 ⟨rfl, S, m1⟩; have Z := Z.mv m1 hgb; have M := M.trans m1; clear m1; obtain ⟨z0, z1, z2, f0, f1, f2⟩ := Z.cells) | (go_at_call 44; (first | (with_reducible refine (Q0.out _ S).mono ?_)); rintro e w1 ⟨he, S, m1⟩; unfold tokV at he; subst he; have Z := Z.mv m1 hgb; have M := M.trans m1; clear m1; obtain ⟨z0, z1, z2, f0, f1, f2⟩ := Z.cells))
    refine bodyPost_ret (v := .tuple #[tokV (kd) (tx) (0), .bool true]) (by simp [results, tokV, Tryz.results18, go_sem, z0, z1, z2]) rfl ⟨by rw [HE.out]; rfl, sc_stores (by rw [HE.out]; exact S) hgb _ _ _, tz_stores M (Nat.le_refl _) _ _ _⟩
  · have n4 := Ru.eq_f c64
    clear h64 c64
    go_enter Tryz.func18, Tryz.ntmps18
    go_wp2_with (first | (go_at_call 17; (first | (with_reducible refine (C0.out _ S).mono ?_)); rintro e w1 ⟨rfl, S, m1⟩; have Z := Z.mv m1 hgb; have M := M.trans m1; clear m1; obtain ⟨z0, z1, z2, f0, f1, f2⟩ := Z.cells) | (go_at_call 33; ((with_reducible refine (white_any _ _).mono ?_); rintro e w1 ⟨rfl, rfl⟩)) | (go_at_call 34; (first | (with_reducible refine (O0.out _ S).mono ?_)); rintro e w1 ⟨rfl, S, m1⟩; have Z := Z.mv m1 hgb; have M := M.trans m1; clear m1; obtain ⟨z0, z1, z2, f0, f1, f2⟩ := Z.cells) | (go_at_call 41; (first | (with_reducible refine (D0.out _ S).mono ?_)); rintro e w1 ⟨rfl, S, m1⟩; have Z := Z.mv m1 hgb; have M := M.trans m1; clear m1; obtain ⟨z0, z1, z2, f0, f1, f2⟩ := Z.cells) | (go_at_call 43; (first | (with_reducible refine (N0.out _ S).mono ?_) | (with_reducible refine (N1.out _ S).mono ?_)); rintro e w1 ⟨rfl, S, m1⟩; have Z := Z.mv m1 hgb; have M := M.trans m1; clear m1; obtain ⟨z0, z1, z2, f0, f1, f2⟩ := Z.cells) | (go_at_call 44; (first | (with_reducible refine (Q0.out _ S).mono ?_)); rintro e w1 ⟨he, S, m1⟩; unfold tokV at he; subst he; have Z := Z.mv m1 hgb; have M := M.trans m1; clear m1; obtain ⟨z0, z1, z2, f0, f1, f2⟩ := Z.cells))
    refine bodyPost_ret (v := .tuple #[tokV (kd) (tx) (0), .bool true]) (by simp [results, tokV, Tryz.results18, go_sem, z0, z1, z2]) rfl ⟨by rw [HE.out]; rfl, sc_stores (by rw [HE.out]; exact S) hgb _ _ _, tz_stores M (Nat.le_refl _) _ _ _⟩

set_option maxRecDepth 100000 in
set_option maxHeartbeats 4000000 in
theorem next_sgl (hC : Tk.Chr l) (hm : l.length ≤ 65000) (hk : k < l.length) (hp : pl.data.toList = l.map Tk.p8) (hw : Ru.whiB (Ru.g l k) = false) (ho : Tk.opn l k = false) (hpast : Tk.Past l k) (h64 : Ru.g l k = 64 → Tk.begs l (k + 1) = false) (hr : Tk.begs l k = false) (S : Sc w g A cap l pl k) :
    Calls Tryz.prog 18 #[.pointer (some ⟨g, 0, none⟩)] w (Stp g A cap l pl (Tk.nxt l k).2.2.2 (NxtV (Tk.nxt l k)) w) := by
  have hgb := S.lt
  have S := S.alloc (.cells #[.int .i64 0, .string ⟨#[]⟩, .int .i64 0] 32)
  have M := (Mv.refl g w).alloc (.cells #[.int .i64 0, .string ⟨#[]⟩, .int .i64 0] 32)
  have Z := Tz.new w
  have hg := hC.g hk
  have C0 : Hid (∀ w', Sc w' g A cap l pl k → Calls Tryz.prog 17 #[.pointer (some ⟨g, 0, none⟩), .int .i64 0] w' (Stp g A cap l pl k (.int .i32 (Ru.g l k)) w')) := Lib.hid fun w' h => by have := peek_any 0 0 rfl (show l.length ≤ 65536 by omega) (Nat.le_of_lt hk) (by omega) h; rwa [show k + 0 = k from rfl, Tk.at_in hk] at this
  have O0 : Hid (∀ w', Sc w' g A cap l pl k → Calls Tryz.prog 34 #[.pointer (some ⟨g, 0, none⟩)] w' (Stp g A cap l pl k (.bool false) w')) := Lib.hid fun w' h => by have := opens_any (show l.length ≤ 65536 by omega) (Nat.le_of_lt hk) h; rwa [ho] at this
  have T0 : Hid (∀ w', Sc w' g A cap l pl k → Calls Tryz.prog 39 #[.pointer (some ⟨g, 0, none⟩)] w' (Stp g A cap l pl (k + 1) (.int .i32 (Ru.g l k)) w')) := Lib.hid fun w' h => by have := take_in (show l.length ≤ 65536 by omega) hk h; rwa [Tk.at_in hk] at this
  have C1 : Hid (∀ w', Sc w' g A cap l pl k → Calls Tryz.prog 17 #[.pointer (some ⟨g, 0, none⟩), .int .i64 1] w' (Stp g A cap l pl k (.int .i32 (Tk.at' l (k + 1))) w')) := Lib.hid fun w' h => peek_any 1 1 rfl (by omega) (Nat.le_of_lt hk) (by omega) h
  have E1 : Hid (∀ w', Sc w' g A cap l pl k → Calls Tryz.prog 38 #[.pointer (some ⟨g, 0, none⟩), .int .i64 1] w' (Stp g A cap l pl k (.bool (Tk.esc l (k + 1))) w')) := Lib.hid fun w' h => escapes_any 1 1 rfl hC.pos (by omega) (Nat.le_of_lt hk) (by omega) h
  have D0 : Hid (∀ w', Sc w' g A cap l pl k → Calls Tryz.prog 41 #[.pointer (some ⟨g, 0, none⟩)] w' (Stp g A cap l pl k (.int .i64 (Tk.nlen l k : Nat)) w')) := Lib.hid fun w' h => decimal_any hm (Nat.le_of_lt hk) hp h
  have N1 : Hid (∀ w', Sc w' g A cap l pl k → Calls Tryz.prog 43 #[.pointer (some ⟨g, 0, none⟩), .int .i64 1] w' (Stp g A cap l pl k (.bool (Tk.begs l (k + 1))) w')) := Lib.hid fun w' h => names_any 1 1 rfl hC.pos (by omega) (Nat.le_of_lt hk) (by omega) h
  have N0 : Hid (∀ w', Sc w' g A cap l pl k → Calls Tryz.prog 43 #[.pointer (some ⟨g, 0, none⟩), .int .i64 0] w' (Stp g A cap l pl k (.bool (Tk.begs l k)) w')) := Lib.hid fun w' h => names_any 0 0 rfl hC.pos (by omega) (Nat.le_of_lt hk) (by omega) h
  have h0 : Tk.nlen l k = 0 := Nat.eq_zero_of_not_pos (fun h => by have := hpast.2.2.2 (Tk.nlen_num h).2; omega)
  have HE := Lib.hid (Tk.nxt_sgl hpast h64 hr)
  have CS : Hid (∀ w', Calls Tryz.prog 45 #[.int .i32 (Ru.g l k)] w' (Single (Ru.g l k) w')) := Lib.hid fun w' => single_any _ w' hg.1 hg.2
  have h35 := hpast.2.2.1
  have n1 := Ru.eq_f hpast.1
  have n2 := Ru.eq_f hpast.2.1
  rw [h0] at D0
  rw [hr] at N0
  clear hp ho hC hg h0 hr hpast
  generalize Tk.begs l (k + 1) = b1 at *
  generalize Tk.esc l (k + 1) = b2 at *
  generalize Tk.at' l (k + 1) = a1 at *
  generalize hsg : Tk.sgl (Ru.g l k) = sg at *
  have CS2 : Hid (∀ w', Calls Tryz.prog 45 #[.int .i32 (Ru.g l k)] w' (fun e w2 => e = .returned (tokV sg.1 sg.2 0) ∧ Below w'.heap.size w' w2)) := Lib.hid fun w' => by rw [← hsg]; exact CS.out w'
  clear CS hsg
  have CS := CS2
  clear CS2
  generalize Ru.g l k = c at *
  obtain ⟨kd, tx⟩ := sg
  simp only at CS HE
  by_cases c64 : c = 64
  · have hb1 := h64 c64
    subst c64
    subst hb1
    clear h64 h35
    go_enter Tryz.func18, Tryz.ntmps18
    go_wp2_with (first | (go_at_call 17; (first | (with_reducible refine (C0.out _ S).mono ?_)); rintro e w1 ⟨rfl, S, m1⟩; have Z := Z.mv m1 hgb; have M := M.trans m1; clear m1; obtain ⟨z0, z1, z2, f0, f1, f2⟩ := Z.cells) | (go_at_call 33; ((with_reducible refine (white_any _ _).mono ?_); rintro e w1 ⟨rfl, rfl⟩)) | (go_at_call 34; (first | (with_reducible refine (O0.out _ S).mono ?_)); rintro e w1 ⟨rfl, S, m1⟩; have Z := Z.mv m1 hgb; have M := M.trans m1; clear m1; obtain ⟨z0, z1, z2, f0, f1, f2⟩ := Z.cells) | (go_at_call 41; (first | (with_reducible refine (D0.out _ S).mono ?_)); rintro e w1 ⟨rfl, S, m1⟩; have Z := Z.mv m1 hgb; have M := M.trans m1; clear m1; obtain ⟨z0, z1, z2, f0, f1, f2⟩ := Z.cells) | (go_at_call 43; (first | (with_reducible refine (N0.out _ S).mono ?_) | (with_reducible refine (N1.out _ S).mono ?_)); rintro e w1 ⟨rfl, S, m1⟩; have Z := Z.mv m1 hgb; have M := M.trans m1; clear m1; obtain ⟨z0, z1, z2, f0, f1, f2⟩ := Z.cells) | (go_at_call 39; (first | (with_reducible refine (T0.out _ S).mono ?_)); rintro e w1 ⟨rfl, S, m1⟩; have Z := Z.mv m1 hgb; have M := M.trans m1; clear m1; obtain ⟨z0, z1, z2, f0, f1, f2⟩ := Z.cells) | (go_at_call 45; ((with_reducible refine (CS.out _).mono ?_); rintro e w1 ⟨he, b1⟩; unfold tokV at he; subst he; have Z := Z.below b1 (lt_of_block Z); have M := M.then_ b1 M.size; have S := S.below b1 S.lt; clear b1; obtain ⟨z0, z1, z2, f0, f1, f2⟩ := Z.cells)))
    refine bodyPost_ret (v := .tuple #[tokV (kd) (tx) (0), .bool true]) (by simp [results, tokV, Tryz.results18, go_sem, z0, z1, z2]) rfl ⟨by rw [HE.out]; rfl, sc_stores (by rw [HE.out]; exact S) hgb _ _ _, tz_stores M (Nat.le_refl _) _ _ _⟩
  · have n4 := Ru.eq_f c64
    clear h64 c64
    by_cases c35 : c = 35
    · obtain ⟨h5, h6⟩ := h35 c35
      subst c35
      subst h6
      clear h35
      go_enter Tryz.func18, Tryz.ntmps18
      go_wp2_with (first | (go_at_call 17; (first | (with_reducible refine (C0.out _ S).mono ?_) | (with_reducible refine (C1.out _ S).mono ?_)); rintro e w1 ⟨rfl, S, m1⟩; have Z := Z.mv m1 hgb; have M := M.trans m1; clear m1; obtain ⟨z0, z1, z2, f0, f1, f2⟩ := Z.cells) | (go_at_call 33; ((with_reducible refine (white_any _ _).mono ?_); rintro e w1 ⟨rfl, rfl⟩)) | (go_at_call 37; ((with_reducible refine (within_any _ _).mono ?_); rintro e w1 ⟨rfl, rfl⟩)) | (go_at_call 34; (first | (with_reducible refine (O0.out _ S).mono ?_)); rintro e w1 ⟨rfl, S, m1⟩; have Z := Z.mv m1 hgb; have M := M.trans m1; clear m1; obtain ⟨z0, z1, z2, f0, f1, f2⟩ := Z.cells) | (go_at_call 38; (first | (with_reducible refine (E1.out _ S).mono ?_)); rintro e w1 ⟨rfl, S, m1⟩; have Z := Z.mv m1 hgb; have M := M.trans m1; clear m1; obtain ⟨z0, z1, z2, f0, f1, f2⟩ := Z.cells) | (go_at_call 41; (first | (with_reducible refine (D0.out _ S).mono ?_)); rintro e w1 ⟨rfl, S, m1⟩; have Z := Z.mv m1 hgb; have M := M.trans m1; clear m1; obtain ⟨z0, z1, z2, f0, f1, f2⟩ := Z.cells) | (go_at_call 43; (first | (with_reducible refine (N0.out _ S).mono ?_) | (with_reducible refine (N1.out _ S).mono ?_)); rintro e w1 ⟨rfl, S, m1⟩; have Z := Z.mv m1 hgb; have M := M.trans m1; clear m1; obtain ⟨z0, z1, z2, f0, f1, f2⟩ := Z.cells) | (go_at_call 39; (first | (with_reducible refine (T0.out _ S).mono ?_)); rintro e w1 ⟨rfl, S, m1⟩; have Z := Z.mv m1 hgb; have M := M.trans m1; clear m1; obtain ⟨z0, z1, z2, f0, f1, f2⟩ := Z.cells) | (go_at_call 45; ((with_reducible refine (CS.out _).mono ?_); rintro e w1 ⟨he, b1⟩; unfold tokV at he; subst he; have Z := Z.below b1 (lt_of_block Z); have M := M.then_ b1 M.size; have S := S.below b1 S.lt; clear b1; obtain ⟨z0, z1, z2, f0, f1, f2⟩ := Z.cells)))
      refine bodyPost_ret (v := .tuple #[tokV (kd) (tx) (0), .bool true]) (by simp [results, tokV, Tryz.results18, go_sem, z0, z1, z2]) rfl ⟨by rw [HE.out]; rfl, sc_stores (by rw [HE.out]; exact S) hgb _ _ _, tz_stores M (Nat.le_refl _) _ _ _⟩
    · have n3 := Ru.eq_f c35
      clear h35 c35
      go_enter Tryz.func18, Tryz.ntmps18
      go_wp2_with (first | (go_at_call 17; (first | (with_reducible refine (C0.out _ S).mono ?_)); rintro e w1 ⟨rfl, S, m1⟩; have Z := Z.mv m1 hgb; have M := M.trans m1; clear m1; obtain ⟨z0, z1, z2, f0, f1, f2⟩ := Z.cells) | (go_at_call 33; ((with_reducible refine (white_any _ _).mono ?_); rintro e w1 ⟨rfl, rfl⟩)) | (go_at_call 34; (first | (with_reducible refine (O0.out _ S).mono ?_)); rintro e w1 ⟨rfl, S, m1⟩; have Z := Z.mv m1 hgb; have M := M.trans m1; clear m1; obtain ⟨z0, z1, z2, f0, f1, f2⟩ := Z.cells) | (go_at_call 41; (first | (with_reducible refine (D0.out _ S).mono ?_)); rintro e w1 ⟨rfl, S, m1⟩; have Z := Z.mv m1 hgb; have M := M.trans m1; clear m1; obtain ⟨z0, z1, z2, f0, f1, f2⟩ := Z.cells) | (go_at_call 43; (first | (with_reducible refine (N0.out _ S).mono ?_) | (with_reducible refine (N1.out _ S).mono ?_)); rintro e w1 ⟨rfl, S, m1⟩; have Z := Z.mv m1 hgb; have M := M.trans m1; clear m1; obtain ⟨z0, z1, z2, f0, f1, f2⟩ := Z.cells) | (go_at_call 39; (first | (with_reducible refine (T0.out _ S).mono ?_)); rintro e w1 ⟨rfl, S, m1⟩; have Z := Z.mv m1 hgb; have M := M.trans m1; clear m1; obtain ⟨z0, z1, z2, f0, f1, f2⟩ := Z.cells) | (go_at_call 45; ((with_reducible refine (CS.out _).mono ?_); rintro e w1 ⟨he, b1⟩; unfold tokV at he; subst he; have Z := Z.below b1 (lt_of_block Z); have M := M.then_ b1 M.size; have S := S.below b1 S.lt; clear b1; obtain ⟨z0, z1, z2, f0, f1, f2⟩ := Z.cells)))
      refine bodyPost_ret (v := .tuple #[tokV (kd) (tx) (0), .bool true]) (by simp [results, tokV, Tryz.results18, go_sem, z0, z1, z2]) rfl ⟨by rw [HE.out]; rfl, sc_stores (by rw [HE.out]; exact S) hgb _ _ _, tz_stores M (Nat.le_refl _) _ _ _⟩

theorem next_tok (hC : Tk.Chr l) (hm : l.length ≤ 65000) (hk : k < l.length) (hp : pl.data.toList = l.map Tk.p8) (hw : Ru.whiB (Ru.g l k) = false) (ho : Tk.opn l k = false) (S : Sc w g A cap l pl k) :
    Calls Tryz.prog 18 #[.pointer (some ⟨g, 0, none⟩)] w (Stp g A cap l pl (Tk.nxt l k).2.2.2 (NxtV (Tk.nxt l k)) w) := by
  by_cases c1 : Ru.g l k = 34 ∨ Ru.g l k = 39
  · exact next_quoted hC hm hk hp hw ho c1 S
  by_cases c2 : Ru.g l k = 35 ∧ (Ru.witB (Tk.at' l (k + 1)) = true ∨ Tk.esc l (k + 1) = true)
  · exact next_hash hC hm hk hp hw ho c2.1 c2.2 S
  by_cases c3 : 0 < Tk.nlen l k
  · have h35 : Ru.g l k ≠ 35 := fun e => by have := (Tk.nlen_num c3).2; rw [e] at this; exact absurd this (by decide)
    exact next_number hC hm hk hp hw ho (fun e => c1 (.inl e)) (fun e => c1 (.inr e)) h35 c3 S
  have hpast : Tk.Past l k := ⟨fun h => c1 (.inl h), fun h => c1 (.inr h),
    fun h => ⟨by rw [Bool.eq_false_iff]; exact fun h2 => c2 ⟨h, .inl h2⟩, by rw [Bool.eq_false_iff]; exact fun h2 => c2 ⟨h, .inr h2⟩⟩,
    fun _ => Nat.eq_zero_of_not_pos c3⟩
  by_cases c4 : Ru.g l k = 64 ∧ Tk.begs l (k + 1) = true
  · exact next_atkey hC hm hk hp hw ho c4.1 c4.2 S
  have h64 : Ru.g l k = 64 → Tk.begs l (k + 1) = false := fun h => by rw [Bool.eq_false_iff]; exact fun h2 => c4 ⟨h, h2⟩
  cases c5 : Tk.begs l k
  · exact next_sgl hC hm hk hp hw ho hpast h64 c5 S
  · exact next_word hC hm hk hp hw ho hpast h64 c5 S
end
end Go.Proofs.YtgcmjkimiakibaaGreatDoor
