/-
  The walk of the scanner's next: texts in quotes, hashes, numbers.
-/
import Derived.Test.YtppgklmliklkkaaDoorGq
import Derived.Test.YtppgklmliklkkaaDoorGr
import Derived.Test.YtppgklmliklkkaaDoorGs1
import Derived.Test.YtppgklmliklkkaaDoorGn
import Derived.OwnWalk
import Derived.Test.YtppgklmliklkkaaDoorGu0
namespace Go.Proofs.YtppgklmliklkkaaDoor
open Go.RowKit

/-- what next is of a token -/
def NxtV (r : Int × ByteArray × Int × Nat) : Value := .tuple #[tokV r.1 r.2.1 r.2.2.1, .bool true]
/-- what stands for itself -/
theorem Tk.nxt_sgl {l : List Int} {k : Nat} (h : Tk.Past l k) (h64 : Ru.g l k = 64 → Tk.begs l (k + 1) = false) (hb : Tk.begs l k = false) : Tk.nxt l k = ((Tk.sgl (Ru.g l k)).1, (Tk.sgl (Ru.g l k)).2, 0, k + 1) := by
  rw [Tk.nxt_past h]
  unfold Tk.rest Tk.sgl
  rw [if_neg (fun hh => by rw [h64 hh.1] at hh; exact absurd hh.2 (by decide)), if_neg (by rw [hb]; decide)]
  split
  · rfl
  · split
    · rfl
    · split <;> rfl
theorem Tk.nxt_num {l : List Int} {k : Nat} (h1 : Ru.g l k ≠ 34) (h2 : Ru.g l k ≠ 39) (h3 : Ru.g l k ≠ 35) (h : 0 < Tk.nlen l k) : Tk.nxt l k = ((Tk.nbr l (k + Tk.nlen l k)).1, (Tk.nbr l (k + Tk.nlen l k)).2.1, Tk.nval l k, (Tk.nbr l (k + Tk.nlen l k)).2.2) := by
  unfold Tk.nxt Tk.nbr
  rw [if_neg (by omega), if_neg (fun hh => h3 hh.1), if_pos ⟨(Tk.nlen_num h).2, h⟩]
  split
  · rfl
  · split <;> rfl
theorem Tk.nxt_word {l : List Int} {k : Nat} (h : Tk.Past l k) (h64 : Ru.g l k = 64 → Tk.begs l (k + 1) = false) (hb : Tk.begs l k = true) : Tk.nxt l k = ((Tk.wrd l k).1, Tk.str (Tk.name l k).1, 0, (Tk.wrd l k).2) := by
  rw [Tk.nxt_past h]
  unfold Tk.rest Tk.wrd
  rw [if_neg (fun hh => by rw [h64 hh.1] at hh; exact absurd hh.2 (by decide)), if_pos hb]
  split <;> rfl

section
variable {w : World} {g cap k : Nat} {A : Option Addr} {l : List Int} {pl : ByteArray}
set_option maxRecDepth 100000 in
set_option maxHeartbeats 4000000 in
theorem next_quoted (hC : Tk.Chr l) (hm : l.length ≤ 65000) (hk : k < l.length) (_hp : pl.data.toList = l.map Tk.p8) (hw : Ru.whiB (Ru.g l k) = false) (ho : Tk.opn l k = false) (hq : Ru.g l k = 34 ∨ Ru.g l k = 39) (S : Sc w g A cap l pl k) :
    Calls Tryd.prog 14 #[.pointer (some ⟨g, 0, none⟩)] w (Stp g A cap l pl (Tk.nxt l k).2.2.2 (NxtV (Tk.nxt l k)) w) := by
  have hgb := S.lt
  have S := S.alloc (.cells #[.int .i64 0, .string ⟨#[]⟩, .int .i64 0] 29)
  have M := (Mv.refl g w).alloc (.cells #[.int .i64 0, .string ⟨#[]⟩, .int .i64 0] 29)
  have Z := Tz.new w
  have hg := hC.g hk
  have C0 : Hid (∀ w', Sc w' g A cap l pl k → Calls Tryd.prog 13 #[.pointer (some ⟨g, 0, none⟩), .int .i64 0] w' (Stp g A cap l pl k (.int .i32 (Ru.g l k)) w')) := Lib.hid fun w' h => by have := peek_any 0 0 rfl (show l.length ≤ 65536 by omega) (Nat.le_of_lt hk) (by omega) h; rwa [show k + 0 = k from rfl, Tk.at_in hk] at this
  have O0 : Hid (∀ w', Sc w' g A cap l pl k → Calls Tryd.prog 19 #[.pointer (some ⟨g, 0, none⟩)] w' (Stp g A cap l pl k (.bool false) w')) := Lib.hid fun w' h => by have := opens_any (show l.length ≤ 65536 by omega) (Nat.le_of_lt hk) h; rwa [ho] at this
  have T0 : Hid (∀ w', Sc w' g A cap l pl k → Calls Tryd.prog 24 #[.pointer (some ⟨g, 0, none⟩)] w' (Stp g A cap l pl (k + 1) (.int .i32 (Ru.g l k)) w')) := Lib.hid fun w' h => by have := take_in (show l.length ≤ 65536 by omega) hk h; rwa [Tk.at_in hk] at this
  have Q0 : Hid (∀ w', Sc w' g A cap l pl k → Calls Tryd.prog 21 #[.pointer (some ⟨g, 0, none⟩)] w' (Stp g A cap l pl (Tk.qq l (Ru.g l k) (k + 1)).2.2 (tokV (Tk.qq l (Ru.g l k) (k + 1)).1 (Tk.str (Tk.qq l (Ru.g l k) (k + 1)).2.1) 0) w')) := Lib.hid fun w' h => quoted_any hC hm hk hq h
  have HE : Hid (Tk.nxt l k = ((Tk.qq l (Ru.g l k) (k + 1)).1, Tk.str (Tk.qq l (Ru.g l k) (k + 1)).2.1, 0, (Tk.qq l (Ru.g l k) (k + 1)).2.2)) := Lib.hid (by unfold Tk.nxt; rw [if_pos hq])
  clear _hp ho hC hg T0
  generalize Ru.g l k = c at *
  generalize Tk.qq l c (k + 1) = q at *
  obtain ⟨kd, ds, j2⟩ := q
  simp only at Q0 HE
  rcases hq with rfl | rfl
  all_goals
    go_enter Tryd.func14, Tryd.ntmps14
    go_wp2_with (first | (go_at_call 13; (first | (with_reducible refine (C0.out _ S).mono ?_)); rintro e w1 ⟨rfl, S, m1⟩; have Z := Z.mv m1 hgb; have M := M.trans m1; clear m1; obtain ⟨z0, z1, z2, f0, f1, f2⟩ := Z.cells) | (go_at_call 18; ((with_reducible refine (white_any _ _).mono ?_); rintro e w1 ⟨rfl, rfl⟩)) | (go_at_call 19; (first | (with_reducible refine (O0.out _ S).mono ?_)); rintro e w1 ⟨rfl, S, m1⟩; have Z := Z.mv m1 hgb; have M := M.trans m1; clear m1; obtain ⟨z0, z1, z2, f0, f1, f2⟩ := Z.cells) | (go_at_call 21; (first | (with_reducible refine (Q0.out _ S).mono ?_)); rintro e w1 ⟨he, S, m1⟩; unfold tokV at he; subst he; have Z := Z.mv m1 hgb; have M := M.trans m1; clear m1; obtain ⟨z0, z1, z2, f0, f1, f2⟩ := Z.cells))
    refine bodyPost_ret (v := .tuple #[tokV (kd) (Tk.str ds) (0), .bool true]) (by simp [results, tokV, Tryd.results14, go_sem, z0, z1, z2]) rfl ⟨by rw [HE.out]; rfl, sc_stores (by rw [HE.out]; exact S) hgb _ _ _, tz_stores M (Nat.le_refl _) _ _ _⟩

set_option maxRecDepth 100000 in
set_option maxHeartbeats 4000000 in
theorem next_hash (hC : Tk.Chr l) (hm : l.length ≤ 65000) (hk : k < l.length) (_hp : pl.data.toList = l.map Tk.p8) (hw : Ru.whiB (Ru.g l k) = false) (ho : Tk.opn l k = false) (hq : Ru.g l k = 35) (hr : Ru.witB (Tk.at' l (k + 1)) = true ∨ Tk.esc l (k + 1) = true) (S : Sc w g A cap l pl k) :
    Calls Tryd.prog 14 #[.pointer (some ⟨g, 0, none⟩)] w (Stp g A cap l pl (Tk.nxt l k).2.2.2 (NxtV (Tk.nxt l k)) w) := by
  have hgb := S.lt
  have S := S.alloc (.cells #[.int .i64 0, .string ⟨#[]⟩, .int .i64 0] 29)
  have M := (Mv.refl g w).alloc (.cells #[.int .i64 0, .string ⟨#[]⟩, .int .i64 0] 29)
  have Z := Tz.new w
  have hg := hC.g hk
  have C0 : Hid (∀ w', Sc w' g A cap l pl k → Calls Tryd.prog 13 #[.pointer (some ⟨g, 0, none⟩), .int .i64 0] w' (Stp g A cap l pl k (.int .i32 (Ru.g l k)) w')) := Lib.hid fun w' h => by have := peek_any 0 0 rfl (show l.length ≤ 65536 by omega) (Nat.le_of_lt hk) (by omega) h; rwa [show k + 0 = k from rfl, Tk.at_in hk] at this
  have O0 : Hid (∀ w', Sc w' g A cap l pl k → Calls Tryd.prog 19 #[.pointer (some ⟨g, 0, none⟩)] w' (Stp g A cap l pl k (.bool false) w')) := Lib.hid fun w' h => by have := opens_any (show l.length ≤ 65536 by omega) (Nat.le_of_lt hk) h; rwa [ho] at this
  have T0 : Hid (∀ w', Sc w' g A cap l pl k → Calls Tryd.prog 24 #[.pointer (some ⟨g, 0, none⟩)] w' (Stp g A cap l pl (k + 1) (.int .i32 (Ru.g l k)) w')) := Lib.hid fun w' h => by have := take_in (show l.length ≤ 65536 by omega) hk h; rwa [Tk.at_in hk] at this
  have C1 : Hid (∀ w', Sc w' g A cap l pl k → Calls Tryd.prog 13 #[.pointer (some ⟨g, 0, none⟩), .int .i64 1] w' (Stp g A cap l pl k (.int .i32 (Tk.at' l (k + 1))) w')) := Lib.hid fun w' h => peek_any 1 1 rfl (by omega) (Nat.le_of_lt hk) (by omega) h
  have E1 : Hid (∀ w', Sc w' g A cap l pl k → Calls Tryd.prog 23 #[.pointer (some ⟨g, 0, none⟩), .int .i64 1] w' (Stp g A cap l pl k (.bool (Tk.esc l (k + 1))) w')) := Lib.hid fun w' h => escapes_any 1 1 rfl hC.pos (by omega) (Nat.le_of_lt hk) (by omega) h
  have X1 : Hid (∀ w', Sc w' g A cap l pl (k + 1) → Calls Tryd.prog 25 #[.pointer (some ⟨g, 0, none⟩)] w' (Stp g A cap l pl (Tk.name l (k + 1)).2 (.string (Tk.str (Tk.name l (k + 1)).1)) w')) := Lib.hid fun w' h => name_any hC hm hk h
  have HE : Hid (Tk.nxt l k = (5, Tk.str (Tk.name l (k + 1)).1, 0, (Tk.name l (k + 1)).2)) := Lib.hid (by unfold Tk.nxt; rw [if_neg (by omega), if_pos ⟨hq, hr⟩])
  clear _hp ho hC hg
  generalize Ru.g l k = c at *
  generalize Tk.at' l (k + 1) = a1 at *
  generalize Tk.esc l (k + 1) = b1 at *
  generalize Tk.name l (k + 1) = nm at *
  obtain ⟨ds, j2⟩ := nm
  simp only at X1 HE
  subst hq
  cases hwi : Ru.witB a1
  · have hb : b1 = true := by
      rcases hr with hr | hr
      · rw [hwi] at hr; cases hr
      · exact hr
    subst hb
    clear hr
    go_enter Tryd.func14, Tryd.ntmps14
    go_wp2_with (first | (go_at_call 13; (first | (with_reducible refine (C0.out _ S).mono ?_) | (with_reducible refine (C1.out _ S).mono ?_)); rintro e w1 ⟨rfl, S, m1⟩; have Z := Z.mv m1 hgb; have M := M.trans m1; clear m1; obtain ⟨z0, z1, z2, f0, f1, f2⟩ := Z.cells) | (go_at_call 18; ((with_reducible refine (white_any _ _).mono ?_); rintro e w1 ⟨rfl, rfl⟩)) | (go_at_call 22; ((with_reducible refine (within_any _ _).mono ?_); rintro e w1 ⟨rfl, rfl⟩)) | (go_at_call 19; (first | (with_reducible refine (O0.out _ S).mono ?_)); rintro e w1 ⟨rfl, S, m1⟩; have Z := Z.mv m1 hgb; have M := M.trans m1; clear m1; obtain ⟨z0, z1, z2, f0, f1, f2⟩ := Z.cells) | (go_at_call 23; (first | (with_reducible refine (E1.out _ S).mono ?_)); rintro e w1 ⟨rfl, S, m1⟩; have Z := Z.mv m1 hgb; have M := M.trans m1; clear m1; obtain ⟨z0, z1, z2, f0, f1, f2⟩ := Z.cells) | (go_at_call 24; (first | (with_reducible refine (T0.out _ S).mono ?_)); rintro e w1 ⟨rfl, S, m1⟩; have Z := Z.mv m1 hgb; have M := M.trans m1; clear m1; obtain ⟨z0, z1, z2, f0, f1, f2⟩ := Z.cells) | (go_at_call 25; (first | (with_reducible refine (X1.out _ S).mono ?_)); rintro e w1 ⟨rfl, S, m1⟩; have Z := Z.mv m1 hgb; have M := M.trans m1; clear m1; obtain ⟨z0, z1, z2, f0, f1, f2⟩ := Z.cells))
    refine bodyPost_ret (v := .tuple #[tokV (5) (Tk.str ds) (0), .bool true]) (by simp [results, tokV, Tryd.results14, go_sem, z0, z1, z2]) rfl ⟨by rw [HE.out]; rfl, sc_stores (by rw [HE.out]; exact S) hgb _ _ _, tz_stores M (Nat.le_refl _) _ _ _⟩
  · clear hr
    go_enter Tryd.func14, Tryd.ntmps14
    go_wp2_with (first | (go_at_call 13; (first | (with_reducible refine (C0.out _ S).mono ?_) | (with_reducible refine (C1.out _ S).mono ?_)); rintro e w1 ⟨rfl, S, m1⟩; have Z := Z.mv m1 hgb; have M := M.trans m1; clear m1; obtain ⟨z0, z1, z2, f0, f1, f2⟩ := Z.cells) | (go_at_call 18; ((with_reducible refine (white_any _ _).mono ?_); rintro e w1 ⟨rfl, rfl⟩)) | (go_at_call 22; ((with_reducible refine (within_any _ _).mono ?_); rintro e w1 ⟨rfl, rfl⟩)) | (go_at_call 19; (first | (with_reducible refine (O0.out _ S).mono ?_)); rintro e w1 ⟨rfl, S, m1⟩; have Z := Z.mv m1 hgb; have M := M.trans m1; clear m1; obtain ⟨z0, z1, z2, f0, f1, f2⟩ := Z.cells) | (go_at_call 23; (first | (with_reducible refine (E1.out _ S).mono ?_)); rintro e w1 ⟨rfl, S, m1⟩; have Z := Z.mv m1 hgb; have M := M.trans m1; clear m1; obtain ⟨z0, z1, z2, f0, f1, f2⟩ := Z.cells) | (go_at_call 24; (first | (with_reducible refine (T0.out _ S).mono ?_)); rintro e w1 ⟨rfl, S, m1⟩; have Z := Z.mv m1 hgb; have M := M.trans m1; clear m1; obtain ⟨z0, z1, z2, f0, f1, f2⟩ := Z.cells) | (go_at_call 25; (first | (with_reducible refine (X1.out _ S).mono ?_)); rintro e w1 ⟨rfl, S, m1⟩; have Z := Z.mv m1 hgb; have M := M.trans m1; clear m1; obtain ⟨z0, z1, z2, f0, f1, f2⟩ := Z.cells))
    refine bodyPost_ret (v := .tuple #[tokV (5) (Tk.str ds) (0), .bool true]) (by simp [results, tokV, Tryd.results14, go_sem, z0, z1, z2]) rfl ⟨by rw [HE.out]; rfl, sc_stores (by rw [HE.out]; exact S) hgb _ _ _, tz_stores M (Nat.le_refl _) _ _ _⟩

set_option maxRecDepth 100000 in
set_option maxHeartbeats 4000000 in
theorem next_number (hC : Tk.Chr l) (hm : l.length ≤ 65000) (hk : k < l.length) (hp : pl.data.toList = l.map Tk.p8) (hw : Ru.whiB (Ru.g l k) = false) (ho : Tk.opn l k = false) (h1 : Ru.g l k ≠ 34) (h2 : Ru.g l k ≠ 39) (h3 : Ru.g l k ≠ 35) (hq : 0 < Tk.nlen l k) (S : Sc w g A cap l pl k) :
    Calls Tryd.prog 14 #[.pointer (some ⟨g, 0, none⟩)] w (Stp g A cap l pl (Tk.nxt l k).2.2.2 (NxtV (Tk.nxt l k)) w) := by
  have hgb := S.lt
  have S := S.alloc (.cells #[.int .i64 0, .string ⟨#[]⟩, .int .i64 0] 29)
  have M := (Mv.refl g w).alloc (.cells #[.int .i64 0, .string ⟨#[]⟩, .int .i64 0] 29)
  have Z := Tz.new w
  have hg := hC.g hk
  have C0 : Hid (∀ w', Sc w' g A cap l pl k → Calls Tryd.prog 13 #[.pointer (some ⟨g, 0, none⟩), .int .i64 0] w' (Stp g A cap l pl k (.int .i32 (Ru.g l k)) w')) := Lib.hid fun w' h => by have := peek_any 0 0 rfl (show l.length ≤ 65536 by omega) (Nat.le_of_lt hk) (by omega) h; rwa [show k + 0 = k from rfl, Tk.at_in hk] at this
  have O0 : Hid (∀ w', Sc w' g A cap l pl k → Calls Tryd.prog 19 #[.pointer (some ⟨g, 0, none⟩)] w' (Stp g A cap l pl k (.bool false) w')) := Lib.hid fun w' h => by have := opens_any (show l.length ≤ 65536 by omega) (Nat.le_of_lt hk) h; rwa [ho] at this
  have T0 : Hid (∀ w', Sc w' g A cap l pl k → Calls Tryd.prog 24 #[.pointer (some ⟨g, 0, none⟩)] w' (Stp g A cap l pl (k + 1) (.int .i32 (Ru.g l k)) w')) := Lib.hid fun w' h => by have := take_in (show l.length ≤ 65536 by omega) hk h; rwa [Tk.at_in hk] at this
  have D0 : Hid (∀ w', Sc w' g A cap l pl k → Calls Tryd.prog 26 #[.pointer (some ⟨g, 0, none⟩)] w' (Stp g A cap l pl k (.int .i64 (Tk.nlen l k : Nat)) w')) := Lib.hid fun w' h => decimal_any hm (Nat.le_of_lt hk) hp h
  have Q0 : Hid (∀ w', Sc w' g A cap l pl k → Calls Tryd.prog 27 #[.pointer (some ⟨g, 0, none⟩)] w' (Stp g A cap l pl (Tk.nbr l (k + Tk.nlen l k)).2.2 (tokV (Tk.nbr l (k + Tk.nlen l k)).1 (Tk.nbr l (k + Tk.nlen l k)).2.1 (Tk.nval l k)) w')) := Lib.hid fun w' h => number_any hC hm (Nat.le_of_lt hk) hp hq h
  have HE := Lib.hid (Tk.nxt_num h1 h2 h3 hq)
  have hnl := Tk.nlen_le l k (Nat.le_of_lt hk)
  clear hp ho hC hg T0
  generalize Ru.g l k = c at *
  generalize Tk.nbr l (k + Tk.nlen l k) = q at *
  generalize Tk.nval l k = v at *
  generalize Tk.nlen l k = n at *
  obtain ⟨kd, tx, j2⟩ := q
  simp only at Q0 HE
  have n1 := Ru.eq_f h1
  have n2 := Ru.eq_f h2
  have n3 := Ru.eq_f h3
  clear h1 h2 h3
  go_enter Tryd.func14, Tryd.ntmps14
  go_wp2_with (first | (go_at_call 13; (first | (with_reducible refine (C0.out _ S).mono ?_)); rintro e w1 ⟨rfl, S, m1⟩; have Z := Z.mv m1 hgb; have M := M.trans m1; clear m1; obtain ⟨z0, z1, z2, f0, f1, f2⟩ := Z.cells) | (go_at_call 18; ((with_reducible refine (white_any _ _).mono ?_); rintro e w1 ⟨rfl, rfl⟩)) | (go_at_call 19; (first | (with_reducible refine (O0.out _ S).mono ?_)); rintro e w1 ⟨rfl, S, m1⟩; have Z := Z.mv m1 hgb; have M := M.trans m1; clear m1; obtain ⟨z0, z1, z2, f0, f1, f2⟩ := Z.cells) | (go_at_call 26; (first | (with_reducible refine (D0.out _ S).mono ?_)); rintro e w1 ⟨rfl, S, m1⟩; have Z := Z.mv m1 hgb; have M := M.trans m1; clear m1; obtain ⟨z0, z1, z2, f0, f1, f2⟩ := Z.cells) | (go_at_call 27; (first | (with_reducible refine (Q0.out _ S).mono ?_)); rintro e w1 ⟨he, S, m1⟩; unfold tokV at he; subst he; have Z := Z.mv m1 hgb; have M := M.trans m1; clear m1; obtain ⟨z0, z1, z2, f0, f1, f2⟩ := Z.cells))
  refine bodyPost_ret (v := .tuple #[tokV (kd) (tx) (v), .bool true]) (by simp [results, tokV, Tryd.results14, go_sem, z0, z1, z2]) rfl ⟨by rw [HE.out]; rfl, sc_stores (by rw [HE.out]; exact S) hgb _ _ _, tz_stores M (Nat.le_refl _) _ _ _⟩
end
end Go.Proofs.YtppgklmliklkkaaDoor

/-
  The walk of the scanner's next: at-words, names, single characters.
-/
namespace Go.Proofs.YtppgklmliklkkaaDoor
open Go.RowKit

section
variable {w : World} {g cap k : Nat} {A : Option Addr} {l : List Int} {pl : ByteArray}
set_option maxRecDepth 100000 in
set_option maxHeartbeats 4000000 in
theorem next_atkey (hC : Tk.Chr l) (hm : l.length ≤ 65000) (hk : k < l.length) (hp : pl.data.toList = l.map Tk.p8) (hw : Ru.whiB (Ru.g l k) = false) (ho : Tk.opn l k = false) (hq : Ru.g l k = 64) (hr : Tk.begs l (k + 1) = true) (S : Sc w g A cap l pl k) :
    Calls Tryd.prog 14 #[.pointer (some ⟨g, 0, none⟩)] w (Stp g A cap l pl (Tk.nxt l k).2.2.2 (NxtV (Tk.nxt l k)) w) := by
  have hgb := S.lt
  have S := S.alloc (.cells #[.int .i64 0, .string ⟨#[]⟩, .int .i64 0] 29)
  have M := (Mv.refl g w).alloc (.cells #[.int .i64 0, .string ⟨#[]⟩, .int .i64 0] 29)
  have Z := Tz.new w
  have hg := hC.g hk
  have C0 : Hid (∀ w', Sc w' g A cap l pl k → Calls Tryd.prog 13 #[.pointer (some ⟨g, 0, none⟩), .int .i64 0] w' (Stp g A cap l pl k (.int .i32 (Ru.g l k)) w')) := Lib.hid fun w' h => by have := peek_any 0 0 rfl (show l.length ≤ 65536 by omega) (Nat.le_of_lt hk) (by omega) h; rwa [show k + 0 = k from rfl, Tk.at_in hk] at this
  have O0 : Hid (∀ w', Sc w' g A cap l pl k → Calls Tryd.prog 19 #[.pointer (some ⟨g, 0, none⟩)] w' (Stp g A cap l pl k (.bool false) w')) := Lib.hid fun w' h => by have := opens_any (show l.length ≤ 65536 by omega) (Nat.le_of_lt hk) h; rwa [ho] at this
  have T0 : Hid (∀ w', Sc w' g A cap l pl k → Calls Tryd.prog 24 #[.pointer (some ⟨g, 0, none⟩)] w' (Stp g A cap l pl (k + 1) (.int .i32 (Ru.g l k)) w')) := Lib.hid fun w' h => by have := take_in (show l.length ≤ 65536 by omega) hk h; rwa [Tk.at_in hk] at this
  have D0 : Hid (∀ w', Sc w' g A cap l pl k → Calls Tryd.prog 26 #[.pointer (some ⟨g, 0, none⟩)] w' (Stp g A cap l pl k (.int .i64 (Tk.nlen l k : Nat)) w')) := Lib.hid fun w' h => decimal_any hm (Nat.le_of_lt hk) hp h
  have N1 : Hid (∀ w', Sc w' g A cap l pl k → Calls Tryd.prog 28 #[.pointer (some ⟨g, 0, none⟩), .int .i64 1] w' (Stp g A cap l pl k (.bool (Tk.begs l (k + 1))) w')) := Lib.hid fun w' h => names_any 1 1 rfl hC.pos (by omega) (Nat.le_of_lt hk) (by omega) h
  have X1 : Hid (∀ w', Sc w' g A cap l pl (k + 1) → Calls Tryd.prog 25 #[.pointer (some ⟨g, 0, none⟩)] w' (Stp g A cap l pl (Tk.name l (k + 1)).2 (.string (Tk.str (Tk.name l (k + 1)).1)) w')) := Lib.hid fun w' h => name_any hC hm hk h
  have h0 : Tk.nlen l k = 0 := Nat.eq_zero_of_not_pos (fun h => by have := (Tk.nlen_num h).2; rw [hq] at this; exact absurd this (by decide))
  have HE : Hid (Tk.nxt l k = (4, Tk.str (Tk.name l (k + 1)).1, 0, (Tk.name l (k + 1)).2)) := Lib.hid (by
    unfold Tk.nxt Tk.rest
    rw [if_neg (by omega), if_neg (by omega), if_neg (by omega), if_pos ⟨hq, hr⟩])
  rw [h0] at D0
  rw [hr] at N1
  clear hp ho hC hg h0 hr
  generalize Ru.g l k = c at *
  generalize Tk.name l (k + 1) = nm at *
  obtain ⟨ds, j2⟩ := nm
  simp only at X1 HE
  subst hq
  go_enter Tryd.func14, Tryd.ntmps14
  go_wp2_with (first | (go_at_call 13; (first | (with_reducible refine (C0.out _ S).mono ?_)); rintro e w1 ⟨rfl, S, m1⟩; have Z := Z.mv m1 hgb; have M := M.trans m1; clear m1; obtain ⟨z0, z1, z2, f0, f1, f2⟩ := Z.cells) | (go_at_call 18; ((with_reducible refine (white_any _ _).mono ?_); rintro e w1 ⟨rfl, rfl⟩)) | (go_at_call 19; (first | (with_reducible refine (O0.out _ S).mono ?_)); rintro e w1 ⟨rfl, S, m1⟩; have Z := Z.mv m1 hgb; have M := M.trans m1; clear m1; obtain ⟨z0, z1, z2, f0, f1, f2⟩ := Z.cells) | (go_at_call 26; (first | (with_reducible refine (D0.out _ S).mono ?_)); rintro e w1 ⟨rfl, S, m1⟩; have Z := Z.mv m1 hgb; have M := M.trans m1; clear m1; obtain ⟨z0, z1, z2, f0, f1, f2⟩ := Z.cells) | (go_at_call 28; (first | (with_reducible refine (N1.out _ S).mono ?_)); rintro e w1 ⟨rfl, S, m1⟩; have Z := Z.mv m1 hgb; have M := M.trans m1; clear m1; obtain ⟨z0, z1, z2, f0, f1, f2⟩ := Z.cells) | (go_at_call 24; (first | (with_reducible refine (T0.out _ S).mono ?_)); rintro e w1 ⟨rfl, S, m1⟩; have Z := Z.mv m1 hgb; have M := M.trans m1; clear m1; obtain ⟨z0, z1, z2, f0, f1, f2⟩ := Z.cells) | (go_at_call 25; (first | (with_reducible refine (X1.out _ S).mono ?_)); rintro e w1 ⟨rfl, S, m1⟩; have Z := Z.mv m1 hgb; have M := M.trans m1; clear m1; obtain ⟨z0, z1, z2, f0, f1, f2⟩ := Z.cells))
  refine bodyPost_ret (v := .tuple #[tokV (4) (Tk.str ds) (0), .bool true]) (by simp [results, tokV, Tryd.results14, go_sem, z0, z1, z2]) rfl ⟨by rw [HE.out]; rfl, sc_stores (by rw [HE.out]; exact S) hgb _ _ _, tz_stores M (Nat.le_refl _) _ _ _⟩

set_option maxRecDepth 100000 in
set_option maxHeartbeats 4000000 in
theorem next_word (hC : Tk.Chr l) (hm : l.length ≤ 65000) (hk : k < l.length) (hp : pl.data.toList = l.map Tk.p8) (hw : Ru.whiB (Ru.g l k) = false) (ho : Tk.opn l k = false) (hpast : Tk.Past l k) (h64 : Ru.g l k = 64 → Tk.begs l (k + 1) = false) (hr : Tk.begs l k = true) (S : Sc w g A cap l pl k) :
    Calls Tryd.prog 14 #[.pointer (some ⟨g, 0, none⟩)] w (Stp g A cap l pl (Tk.nxt l k).2.2.2 (NxtV (Tk.nxt l k)) w) := by
  have hgb := S.lt
  have S := S.alloc (.cells #[.int .i64 0, .string ⟨#[]⟩, .int .i64 0] 29)
  have M := (Mv.refl g w).alloc (.cells #[.int .i64 0, .string ⟨#[]⟩, .int .i64 0] 29)
  have Z := Tz.new w
  have hg := hC.g hk
  have C0 : Hid (∀ w', Sc w' g A cap l pl k → Calls Tryd.prog 13 #[.pointer (some ⟨g, 0, none⟩), .int .i64 0] w' (Stp g A cap l pl k (.int .i32 (Ru.g l k)) w')) := Lib.hid fun w' h => by have := peek_any 0 0 rfl (show l.length ≤ 65536 by omega) (Nat.le_of_lt hk) (by omega) h; rwa [show k + 0 = k from rfl, Tk.at_in hk] at this
  have O0 : Hid (∀ w', Sc w' g A cap l pl k → Calls Tryd.prog 19 #[.pointer (some ⟨g, 0, none⟩)] w' (Stp g A cap l pl k (.bool false) w')) := Lib.hid fun w' h => by have := opens_any (show l.length ≤ 65536 by omega) (Nat.le_of_lt hk) h; rwa [ho] at this
  have T0 : Hid (∀ w', Sc w' g A cap l pl k → Calls Tryd.prog 24 #[.pointer (some ⟨g, 0, none⟩)] w' (Stp g A cap l pl (k + 1) (.int .i32 (Ru.g l k)) w')) := Lib.hid fun w' h => by have := take_in (show l.length ≤ 65536 by omega) hk h; rwa [Tk.at_in hk] at this
  have D0 : Hid (∀ w', Sc w' g A cap l pl k → Calls Tryd.prog 26 #[.pointer (some ⟨g, 0, none⟩)] w' (Stp g A cap l pl k (.int .i64 (Tk.nlen l k : Nat)) w')) := Lib.hid fun w' h => decimal_any hm (Nat.le_of_lt hk) hp h
  have N1 : Hid (∀ w', Sc w' g A cap l pl k → Calls Tryd.prog 28 #[.pointer (some ⟨g, 0, none⟩), .int .i64 1] w' (Stp g A cap l pl k (.bool (Tk.begs l (k + 1))) w')) := Lib.hid fun w' h => names_any 1 1 rfl hC.pos (by omega) (Nat.le_of_lt hk) (by omega) h
  have N0 : Hid (∀ w', Sc w' g A cap l pl k → Calls Tryd.prog 28 #[.pointer (some ⟨g, 0, none⟩), .int .i64 0] w' (Stp g A cap l pl k (.bool (Tk.begs l k)) w')) := Lib.hid fun w' h => names_any 0 0 rfl hC.pos (by omega) (Nat.le_of_lt hk) (by omega) h
  have Q0 : Hid (∀ w', Sc w' g A cap l pl k → Calls Tryd.prog 29 #[.pointer (some ⟨g, 0, none⟩)] w' (Stp g A cap l pl (Tk.wrd l k).2 (tokV (Tk.wrd l k).1 (Tk.str (Tk.name l k).1) 0) w')) := Lib.hid fun w' h => word_any hC hm (Nat.le_of_lt hk) h
  have h0 : Tk.nlen l k = 0 := Nat.eq_zero_of_not_pos (fun h => by have := hpast.2.2.2 (Tk.nlen_num h).2; omega)
  have HE := Lib.hid (Tk.nxt_word hpast h64 hr)
  have h35 : Ru.g l k ≠ 35 := fun h => by have := Tk.begs_not hk (.inl h); rw [this] at hr; cases hr
  have n1 := Ru.eq_f hpast.1
  have n2 := Ru.eq_f hpast.2.1
  have n3 := Ru.eq_f h35
  rw [h0] at D0
  rw [hr] at N0
  clear hp ho hC hg h0 hr T0 hpast h35
  generalize Tk.begs l (k + 1) = b1 at *
  generalize Ru.g l k = c at *
  generalize Tk.wrd l k = wd at *
  generalize Tk.str (Tk.name l k).1 = tx at *
  obtain ⟨kd, j2⟩ := wd
  simp only at Q0 HE
  by_cases c64 : c = 64
  · have hb1 := h64 c64
    subst c64
    subst hb1
    clear h64
    go_enter Tryd.func14, Tryd.ntmps14
    go_wp2_with (first | (go_at_call 13; (first | (with_reducible refine (C0.out _ S).mono ?_)); rintro e w1 ⟨rfl, S, m1⟩; have Z := Z.mv m1 hgb; have M := M.trans m1; clear m1; obtain ⟨z0, z1, z2, f0, f1, f2⟩ := Z.cells) | (go_at_call 18; ((with_reducible refine (white_any _ _).mono ?_); rintro e w1 ⟨rfl, rfl⟩)) | (go_at_call 19; (first | (with_reducible refine (O0.out _ S).mono ?_)); rintro e w1 ⟨rfl, S, m1⟩; have Z := Z.mv m1 hgb; have M := M.trans m1; clear m1; obtain ⟨z0, z1, z2, f0, f1, f2⟩ := Z.cells) | (go_at_call 26; (first | (with_reducible refine (D0.out _ S).mono ?_)); rintro e w1 ⟨rfl, S, m1⟩; have Z := Z.mv m1 hgb; have M := M.trans m1; clear m1; obtain ⟨z0, z1, z2, f0, f1, f2⟩ := Z.cells) | (go_at_call 28; (first | (with_reducible refine (N0.out _ S).mono ?_) | (with_reducible refine (N1.out _ S).mono ?_)); rintro e w1 ⟨rfl, S, m1⟩; have Z := Z.mv m1 hgb; have M := M.trans m1; clear m1; obtain ⟨z0, z1, z2, f0, f1, f2⟩ := Z.cells) | (go_at_call 29; (first | (with_reducible refine (Q0.out _ S).mono ?_)); rintro e w1 ⟨he, S, m1⟩; unfold tokV at he; subst he; have Z := Z.mv m1 hgb; have M := M.trans m1; clear m1; obtain ⟨z0, z1, z2, f0, f1, f2⟩ := Z.cells))
    refine bodyPost_ret (v := .tuple #[tokV (kd) (tx) (0), .bool true]) (by simp [results, tokV, Tryd.results14, go_sem, z0, z1, z2]) rfl ⟨by rw [HE.out]; rfl, sc_stores (by rw [HE.out]; exact S) hgb _ _ _, tz_stores M (Nat.le_refl _) _ _ _⟩
  · have n4 := Ru.eq_f c64
    clear h64 c64
    go_enter Tryd.func14, Tryd.ntmps14
    go_wp2_with (first | (go_at_call 13; (first | (with_reducible refine (C0.out _ S).mono ?_)); rintro e w1 ⟨rfl, S, m1⟩; have Z := Z.mv m1 hgb; have M := M.trans m1; clear m1; obtain ⟨z0, z1, z2, f0, f1, f2⟩ := Z.cells) | (go_at_call 18; ((with_reducible refine (white_any _ _).mono ?_); rintro e w1 ⟨rfl, rfl⟩)) | (go_at_call 19; (first | (with_reducible refine (O0.out _ S).mono ?_)); rintro e w1 ⟨rfl, S, m1⟩; have Z := Z.mv m1 hgb; have M := M.trans m1; clear m1; obtain ⟨z0, z1, z2, f0, f1, f2⟩ := Z.cells) | (go_at_call 26; (first | (with_reducible refine (D0.out _ S).mono ?_)); rintro e w1 ⟨rfl, S, m1⟩; have Z := Z.mv m1 hgb; have M := M.trans m1; clear m1; obtain ⟨z0, z1, z2, f0, f1, f2⟩ := Z.cells) | (go_at_call 28; (first | (with_reducible refine (N0.out _ S).mono ?_) | (with_reducible refine (N1.out _ S).mono ?_)); rintro e w1 ⟨rfl, S, m1⟩; have Z := Z.mv m1 hgb; have M := M.trans m1; clear m1; obtain ⟨z0, z1, z2, f0, f1, f2⟩ := Z.cells) | (go_at_call 29; (first | (with_reducible refine (Q0.out _ S).mono ?_)); rintro e w1 ⟨he, S, m1⟩; unfold tokV at he; subst he; have Z := Z.mv m1 hgb; have M := M.trans m1; clear m1; obtain ⟨z0, z1, z2, f0, f1, f2⟩ := Z.cells))
    refine bodyPost_ret (v := .tuple #[tokV (kd) (tx) (0), .bool true]) (by simp [results, tokV, Tryd.results14, go_sem, z0, z1, z2]) rfl ⟨by rw [HE.out]; rfl, sc_stores (by rw [HE.out]; exact S) hgb _ _ _, tz_stores M (Nat.le_refl _) _ _ _⟩

set_option maxRecDepth 100000 in
set_option maxHeartbeats 4000000 in
theorem next_sgl (hC : Tk.Chr l) (hm : l.length ≤ 65000) (hk : k < l.length) (hp : pl.data.toList = l.map Tk.p8) (hw : Ru.whiB (Ru.g l k) = false) (ho : Tk.opn l k = false) (hpast : Tk.Past l k) (h64 : Ru.g l k = 64 → Tk.begs l (k + 1) = false) (hr : Tk.begs l k = false) (S : Sc w g A cap l pl k) :
    Calls Tryd.prog 14 #[.pointer (some ⟨g, 0, none⟩)] w (Stp g A cap l pl (Tk.nxt l k).2.2.2 (NxtV (Tk.nxt l k)) w) := by
  have hgb := S.lt
  have S := S.alloc (.cells #[.int .i64 0, .string ⟨#[]⟩, .int .i64 0] 29)
  have M := (Mv.refl g w).alloc (.cells #[.int .i64 0, .string ⟨#[]⟩, .int .i64 0] 29)
  have Z := Tz.new w
  have hg := hC.g hk
  have C0 : Hid (∀ w', Sc w' g A cap l pl k → Calls Tryd.prog 13 #[.pointer (some ⟨g, 0, none⟩), .int .i64 0] w' (Stp g A cap l pl k (.int .i32 (Ru.g l k)) w')) := Lib.hid fun w' h => by have := peek_any 0 0 rfl (show l.length ≤ 65536 by omega) (Nat.le_of_lt hk) (by omega) h; rwa [show k + 0 = k from rfl, Tk.at_in hk] at this
  have O0 : Hid (∀ w', Sc w' g A cap l pl k → Calls Tryd.prog 19 #[.pointer (some ⟨g, 0, none⟩)] w' (Stp g A cap l pl k (.bool false) w')) := Lib.hid fun w' h => by have := opens_any (show l.length ≤ 65536 by omega) (Nat.le_of_lt hk) h; rwa [ho] at this
  have T0 : Hid (∀ w', Sc w' g A cap l pl k → Calls Tryd.prog 24 #[.pointer (some ⟨g, 0, none⟩)] w' (Stp g A cap l pl (k + 1) (.int .i32 (Ru.g l k)) w')) := Lib.hid fun w' h => by have := take_in (show l.length ≤ 65536 by omega) hk h; rwa [Tk.at_in hk] at this
  have C1 : Hid (∀ w', Sc w' g A cap l pl k → Calls Tryd.prog 13 #[.pointer (some ⟨g, 0, none⟩), .int .i64 1] w' (Stp g A cap l pl k (.int .i32 (Tk.at' l (k + 1))) w')) := Lib.hid fun w' h => peek_any 1 1 rfl (by omega) (Nat.le_of_lt hk) (by omega) h
  have E1 : Hid (∀ w', Sc w' g A cap l pl k → Calls Tryd.prog 23 #[.pointer (some ⟨g, 0, none⟩), .int .i64 1] w' (Stp g A cap l pl k (.bool (Tk.esc l (k + 1))) w')) := Lib.hid fun w' h => escapes_any 1 1 rfl hC.pos (by omega) (Nat.le_of_lt hk) (by omega) h
  have D0 : Hid (∀ w', Sc w' g A cap l pl k → Calls Tryd.prog 26 #[.pointer (some ⟨g, 0, none⟩)] w' (Stp g A cap l pl k (.int .i64 (Tk.nlen l k : Nat)) w')) := Lib.hid fun w' h => decimal_any hm (Nat.le_of_lt hk) hp h
  have N1 : Hid (∀ w', Sc w' g A cap l pl k → Calls Tryd.prog 28 #[.pointer (some ⟨g, 0, none⟩), .int .i64 1] w' (Stp g A cap l pl k (.bool (Tk.begs l (k + 1))) w')) := Lib.hid fun w' h => names_any 1 1 rfl hC.pos (by omega) (Nat.le_of_lt hk) (by omega) h
  have N0 : Hid (∀ w', Sc w' g A cap l pl k → Calls Tryd.prog 28 #[.pointer (some ⟨g, 0, none⟩), .int .i64 0] w' (Stp g A cap l pl k (.bool (Tk.begs l k)) w')) := Lib.hid fun w' h => names_any 0 0 rfl hC.pos (by omega) (Nat.le_of_lt hk) (by omega) h
  have h0 : Tk.nlen l k = 0 := Nat.eq_zero_of_not_pos (fun h => by have := hpast.2.2.2 (Tk.nlen_num h).2; omega)
  have HE := Lib.hid (Tk.nxt_sgl hpast h64 hr)
  have CS : Hid (∀ w', Calls Tryd.prog 30 #[.int .i32 (Ru.g l k)] w' (Single (Ru.g l k) w')) := Lib.hid fun w' => single_any _ w' hg.1 hg.2
  have h35 := hpast.2.2.1
  have n1 := Ru.eq_f hpast.1
  have n2 := Ru.eq_f hpast.2.1
  rw [h0] at D0
  rw [hr] at N0
  clear hp ho hC hg h0 hr hpast
  generalize Tk.begs l (k + 1) = b1 at *
  generalize Tk.esc l (k + 1) = b2 at *
  generalize Tk.at' l (k + 1) = a1 at *
  generalize hsg : Tk.sgl (Ru.g l k) = sg at *
  have CS2 : Hid (∀ w', Calls Tryd.prog 30 #[.int .i32 (Ru.g l k)] w' (fun e w2 => e = .returned (tokV sg.1 sg.2 0) ∧ Below w'.heap.size w' w2)) := Lib.hid fun w' => by rw [← hsg]; exact CS.out w'
  clear CS hsg
  have CS := CS2
  clear CS2
  generalize Ru.g l k = c at *
  obtain ⟨kd, tx⟩ := sg
  simp only at CS HE
  by_cases c64 : c = 64
  · have hb1 := h64 c64
    subst c64
    subst hb1
    clear h64 h35
    go_enter Tryd.func14, Tryd.ntmps14
    go_wp2_with (first | (go_at_call 13; (first | (with_reducible refine (C0.out _ S).mono ?_)); rintro e w1 ⟨rfl, S, m1⟩; have Z := Z.mv m1 hgb; have M := M.trans m1; clear m1; obtain ⟨z0, z1, z2, f0, f1, f2⟩ := Z.cells) | (go_at_call 18; ((with_reducible refine (white_any _ _).mono ?_); rintro e w1 ⟨rfl, rfl⟩)) | (go_at_call 19; (first | (with_reducible refine (O0.out _ S).mono ?_)); rintro e w1 ⟨rfl, S, m1⟩; have Z := Z.mv m1 hgb; have M := M.trans m1; clear m1; obtain ⟨z0, z1, z2, f0, f1, f2⟩ := Z.cells) | (go_at_call 26; (first | (with_reducible refine (D0.out _ S).mono ?_)); rintro e w1 ⟨rfl, S, m1⟩; have Z := Z.mv m1 hgb; have M := M.trans m1; clear m1; obtain ⟨z0, z1, z2, f0, f1, f2⟩ := Z.cells) | (go_at_call 28; (first | (with_reducible refine (N0.out _ S).mono ?_) | (with_reducible refine (N1.out _ S).mono ?_)); rintro e w1 ⟨rfl, S, m1⟩; have Z := Z.mv m1 hgb; have M := M.trans m1; clear m1; obtain ⟨z0, z1, z2, f0, f1, f2⟩ := Z.cells) | (go_at_call 24; (first | (with_reducible refine (T0.out _ S).mono ?_)); rintro e w1 ⟨rfl, S, m1⟩; have Z := Z.mv m1 hgb; have M := M.trans m1; clear m1; obtain ⟨z0, z1, z2, f0, f1, f2⟩ := Z.cells) | (go_at_call 30; ((with_reducible refine (CS.out _).mono ?_); rintro e w1 ⟨he, b1⟩; unfold tokV at he; subst he; have Z := Z.below b1 (lt_of_block Z); have M := M.then_ b1 M.size; have S := S.below b1 S.lt; clear b1; obtain ⟨z0, z1, z2, f0, f1, f2⟩ := Z.cells)))
    refine bodyPost_ret (v := .tuple #[tokV (kd) (tx) (0), .bool true]) (by simp [results, tokV, Tryd.results14, go_sem, z0, z1, z2]) rfl ⟨by rw [HE.out]; rfl, sc_stores (by rw [HE.out]; exact S) hgb _ _ _, tz_stores M (Nat.le_refl _) _ _ _⟩
  · have n4 := Ru.eq_f c64
    clear h64 c64
    by_cases c35 : c = 35
    · obtain ⟨h5, h6⟩ := h35 c35
      subst c35
      subst h6
      clear h35
      go_enter Tryd.func14, Tryd.ntmps14
      go_wp2_with (first | (go_at_call 13; (first | (with_reducible refine (C0.out _ S).mono ?_) | (with_reducible refine (C1.out _ S).mono ?_)); rintro e w1 ⟨rfl, S, m1⟩; have Z := Z.mv m1 hgb; have M := M.trans m1; clear m1; obtain ⟨z0, z1, z2, f0, f1, f2⟩ := Z.cells) | (go_at_call 18; ((with_reducible refine (white_any _ _).mono ?_); rintro e w1 ⟨rfl, rfl⟩)) | (go_at_call 22; ((with_reducible refine (within_any _ _).mono ?_); rintro e w1 ⟨rfl, rfl⟩)) | (go_at_call 19; (first | (with_reducible refine (O0.out _ S).mono ?_)); rintro e w1 ⟨rfl, S, m1⟩; have Z := Z.mv m1 hgb; have M := M.trans m1; clear m1; obtain ⟨z0, z1, z2, f0, f1, f2⟩ := Z.cells) | (go_at_call 23; (first | (with_reducible refine (E1.out _ S).mono ?_)); rintro e w1 ⟨rfl, S, m1⟩; have Z := Z.mv m1 hgb; have M := M.trans m1; clear m1; obtain ⟨z0, z1, z2, f0, f1, f2⟩ := Z.cells) | (go_at_call 26; (first | (with_reducible refine (D0.out _ S).mono ?_)); rintro e w1 ⟨rfl, S, m1⟩; have Z := Z.mv m1 hgb; have M := M.trans m1; clear m1; obtain ⟨z0, z1, z2, f0, f1, f2⟩ := Z.cells) | (go_at_call 28; (first | (with_reducible refine (N0.out _ S).mono ?_) | (with_reducible refine (N1.out _ S).mono ?_)); rintro e w1 ⟨rfl, S, m1⟩; have Z := Z.mv m1 hgb; have M := M.trans m1; clear m1; obtain ⟨z0, z1, z2, f0, f1, f2⟩ := Z.cells) | (go_at_call 24; (first | (with_reducible refine (T0.out _ S).mono ?_)); rintro e w1 ⟨rfl, S, m1⟩; have Z := Z.mv m1 hgb; have M := M.trans m1; clear m1; obtain ⟨z0, z1, z2, f0, f1, f2⟩ := Z.cells) | (go_at_call 30; ((with_reducible refine (CS.out _).mono ?_); rintro e w1 ⟨he, b1⟩; unfold tokV at he; subst he; have Z := Z.below b1 (lt_of_block Z); have M := M.then_ b1 M.size; have S := S.below b1 S.lt; clear b1; obtain ⟨z0, z1, z2, f0, f1, f2⟩ := Z.cells)))
      refine bodyPost_ret (v := .tuple #[tokV (kd) (tx) (0), .bool true]) (by simp [results, tokV, Tryd.results14, go_sem, z0, z1, z2]) rfl ⟨by rw [HE.out]; rfl, sc_stores (by rw [HE.out]; exact S) hgb _ _ _, tz_stores M (Nat.le_refl _) _ _ _⟩
    · have n3 := Ru.eq_f c35
      clear h35 c35
      go_enter Tryd.func14, Tryd.ntmps14
      go_wp2_with (first | (go_at_call 13; (first | (with_reducible refine (C0.out _ S).mono ?_)); rintro e w1 ⟨rfl, S, m1⟩; have Z := Z.mv m1 hgb; have M := M.trans m1; clear m1; obtain ⟨z0, z1, z2, f0, f1, f2⟩ := Z.cells) | (go_at_call 18; ((with_reducible refine (white_any _ _).mono ?_); rintro e w1 ⟨rfl, rfl⟩)) | (go_at_call 19; (first | (with_reducible refine (O0.out _ S).mono ?_)); rintro e w1 ⟨rfl, S, m1⟩; have Z := Z.mv m1 hgb; have M := M.trans m1; clear m1; obtain ⟨z0, z1, z2, f0, f1, f2⟩ := Z.cells) | (go_at_call 26; (first | (with_reducible refine (D0.out _ S).mono ?_)); rintro e w1 ⟨rfl, S, m1⟩; have Z := Z.mv m1 hgb; have M := M.trans m1; clear m1; obtain ⟨z0, z1, z2, f0, f1, f2⟩ := Z.cells) | (go_at_call 28; (first | (with_reducible refine (N0.out _ S).mono ?_) | (with_reducible refine (N1.out _ S).mono ?_)); rintro e w1 ⟨rfl, S, m1⟩; have Z := Z.mv m1 hgb; have M := M.trans m1; clear m1; obtain ⟨z0, z1, z2, f0, f1, f2⟩ := Z.cells) | (go_at_call 24; (first | (with_reducible refine (T0.out _ S).mono ?_)); rintro e w1 ⟨rfl, S, m1⟩; have Z := Z.mv m1 hgb; have M := M.trans m1; clear m1; obtain ⟨z0, z1, z2, f0, f1, f2⟩ := Z.cells) | (go_at_call 30; ((with_reducible refine (CS.out _).mono ?_); rintro e w1 ⟨he, b1⟩; unfold tokV at he; subst he; have Z := Z.below b1 (lt_of_block Z); have M := M.then_ b1 M.size; have S := S.below b1 S.lt; clear b1; obtain ⟨z0, z1, z2, f0, f1, f2⟩ := Z.cells)))
      refine bodyPost_ret (v := .tuple #[tokV (kd) (tx) (0), .bool true]) (by simp [results, tokV, Tryd.results14, go_sem, z0, z1, z2]) rfl ⟨by rw [HE.out]; rfl, sc_stores (by rw [HE.out]; exact S) hgb _ _ _, tz_stores M (Nat.le_refl _) _ _ _⟩

theorem next_tok (hC : Tk.Chr l) (hm : l.length ≤ 65000) (hk : k < l.length) (hp : pl.data.toList = l.map Tk.p8) (hw : Ru.whiB (Ru.g l k) = false) (ho : Tk.opn l k = false) (S : Sc w g A cap l pl k) :
    Calls Tryd.prog 14 #[.pointer (some ⟨g, 0, none⟩)] w (Stp g A cap l pl (Tk.nxt l k).2.2.2 (NxtV (Tk.nxt l k)) w) := by
  by_cases c1 : Ru.g l k = 34 ∨ Ru.g l k = 39
  · exact next_quoted hC hm hk hp hw ho c1 S
  by_cases c2 : Ru.g l k = 35 ∧ (Ru.witB (Tk.at' l (k + 1)) = true ∨ Tk.esc l (k + 1) = true)
  · exact next_hash hC hm hk hp hw ho c2.1 c2.2 S
  by_cases c3 : 0 < Tk.nlen l k
  · have h35 : Ru.g l k ≠ 35 := fun e => by have := (Tk.nlen_num c3).2; rw [e] at this; exact absurd this (by decide)
    exact next_number hC hm hk hp hw ho (fun e => c1 (.inl e)) (fun e => c1 (.inr e)) h35 c3 S
  have hpast : Tk.Past l k := ⟨fun h => c1 (.inl h), fun h => c1 (.inr h),
    fun h => ⟨by rw [Bool.eq_false_iff]; exact fun h2 => c2 ⟨h, .inl h2⟩, by rw [Bool.eq_false_iff]; exact fun h2 => c2 ⟨h, .inr h2⟩⟩,
    fun _ => Nat.eq_zero_of_not_pos c3⟩
  by_cases c4 : Ru.g l k = 64 ∧ Tk.begs l (k + 1) = true
  · exact next_atkey hC hm hk hp hw ho c4.1 c4.2 S
  have h64 : Ru.g l k = 64 → Tk.begs l (k + 1) = false := fun h => by rw [Bool.eq_false_iff]; exact fun h2 => c4 ⟨h, h2⟩
  cases c5 : Tk.begs l k
  · exact next_sgl hC hm hk hp hw ho hpast h64 c5 S
  · exact next_word hC hm hk hp hw ho hpast h64 c5 S
end
end Go.Proofs.YtppgklmliklkkaaDoor

/-
  The walk of newScanner.
-/
namespace Go.Proofs.YtppgklmliklkkaaDoor
open Go.RowKit

theorem Tryd.info8 : (Tryd.prog.info? 5).map (fun i => (i.zero, i.size, i.bytes)) = some (some (.int .u8 0), 1, 1) := by kernel_rfl
namespace Tk
open Ru
/-- a character as a byte's number -/
def p8I (c : Int) : Int := min c 128
/-- k of them are done -/
def done8 (l : List Int) (k : Nat) : List Int := (l.take k).map p8I ++ List.replicate (l.length - k) 0
theorem done8_len {l : List Int} {k : Nat} (h : k ≤ l.length) : (done8 l k).length = l.length := by unfold done8; simp; omega
theorem done8_zero (l : List Int) : done8 l 0 = List.replicate l.length 0 := by unfold done8; simp
theorem done8_all (l : List Int) : done8 l l.length = l.map p8I := by unfold done8; simp
theorem done8_next {l : List Int} {k : Nat} (h : k < l.length) : done8 l (k + 1) = (done8 l k).set k (p8I (g l k)) := by
  unfold done8
  rw [take_g h, List.map_append, List.set_append_right _ _ (by simp; omega)]
  have e1 : k - ((l.take k).map p8I).length = 0 := by simp; omega
  obtain ⟨m, hm⟩ : ∃ m, l.length - k = m + 1 := ⟨l.length - k - 1, by omega⟩
  rw [e1, hm, show l.length - (k + 1) = m by omega, List.replicate_succ, List.set_cons_zero, List.append_assoc]
  rfl
/-- the plain text -/
def plainT (l : List Int) : ByteArray := strOfNums (l.map p8I)
theorem plainT_data (l : List Int) : (plainT l).data.toList = l.map p8 := by
  unfold plainT strOfNums
  simp [p8, p8I]
end Tk
/-- a new scanner -/
def NewS (l : List Int) (w : World) (e : Ending) (w' : World) : Prop :=
  ∃ (g : Nat) (A : Option Addr) (cap : Nat), e = .returned (.pointer (some ⟨g, 0, none⟩)) ∧ w.heap.size ≤ g ∧ Sc w' g A cap l (Tk.plainT l) 0 ∧ Below w.heap.size w w'
def NewAt (l : List Int) (w : World) (gx cp : Nat) (v11 : Value) (wr : World) : Prop :=
  ∃ k : Nat, k ≤ l.length ∧ v11 = .int .i64 k ∧ Hid (wr.ownsRow w.heap.size 5 1 (.slice (some ⟨gx, 0, none⟩) l.length cp) l.length (nums .u8 (Tk.done8 l k))) ∧ Hid (Below w.heap.size w wr)
theorem set_nums {k : IntKind} (l : List Int) (j : Nat) (x : Int) : (nums k l).set j (.int k x) = nums k (l.set j x) := by unfold nums; rw [List.map_set]
theorem own_conv {w : World} {B gx cp n : Nat} {l : List Int} (h : w.ownsRow B 5 1 (.slice (some ⟨gx, 0, none⟩) n cp) n (nums .u8 l)) (hn : n = l.length) : (convert 22 9 (.slice (some ⟨gx, 0, none⟩) n cp)).run Tryd.prog w = .ok (.string (strOfNums l)) w := by
  subst hn
  exact conv_bytes cp (Bs.of_own h)

set_option maxHeartbeats 2000000 in
set_option maxRecDepth 100000 in
theorem newScanner_any (l : List Int) (hC : Tk.Chr l) (A : Option Addr) (cap : Nat) (w : World) (hm : l.length ≤ 65536) (hA : Bs w w.heap.size .i32 A l) :
    Calls Tryd.prog 11 #[.slice A l.length cap] w (NewS l w) := by
  obtain ⟨i0, hi, hz0, hz1, hz2⟩ := info_parts Tryd.info8
  have HA := Lib.hid hA
  have HC := Lib.hid hC
  clear hA hC
  go_enter Tryd.func11, Tryd.ntmps11
  go_wp2_with (at_make; refine wpList_make_full _ rfl _ _ 22 rfl w.heap.size 5 i0 (.int .u8 0) 1 Tryd.underlying22 hi hz0 hz1 .i64 .i64 _ _ l.length rfl rfl rfl rfl (by rw [hz2]; omega) (by unfold maxLen; omega) (Nat.le_refl _) ?_; intro w1 hown1 hgrow1)
  have HO1 : Hid (w1.ownsRow w.heap.size 5 1 (.slice (some ⟨w.heap.size, 0, none⟩) l.length l.length) l.length (nums .u8 (Tk.done8 l 0))) := Lib.hid (by
    have e : (madeCells (Value.int .u8 0).cells (l.length * 1)).toList = nums .u8 (Tk.done8 l 0) := by
      rw [Tk.done8_zero, Nat.mul_one]
      unfold nums
      rw [List.map_replicate]
      exact toList_madeCells_one _ _
    rw [← e]; exact hown1)
  have HB1 : Hid (Below w.heap.size w w1) := Lib.hid ((Below.refl _ _).grown hgrow1 (Nat.le_refl _) (by simp))
  clear hown1 hgrow1
  go_wp2_with fail
  go_loopw [11] (fun v11 wr => NewAt l w w.heap.size l.length v11 wr) (fun v11 _ => l.length - (RowKit.intOf v11).toNat)
  case atStart => exact ⟨0, Nat.zero_le _, rfl, HO1, HB1⟩
  case round =>
    obtain ⟨k, hk, rfl, HO, HB⟩ := hrel
    clear HO1 HB1
    by_cases hlt : k < l.length
    · obtain ⟨b, off, rfl, hb, hp⟩ := HA.out (by omega)
      have hcell := (HB.out.cell (p := ⟨b, off + k, none⟩) hb).trans (hp k hlt)
      have hy := HC.out.g hlt
      have hold : ∃ u, wr.cell? ⟨w.heap.size, k, none⟩ = some (.int .u8 u) := ⟨_, (HO.out.cellAt k (by omega)).trans (nums_get (by rw [Tk.done8_len hk]; exact hlt))⟩
      obtain ⟨u, hu⟩ := hold
      have hf := HO.out.frozenAt k
      have HX : Hid ((Tk.done8 l (k + 1)) = (Tk.done8 l k).set k (Tk.p8I (Ru.g l k))) := Lib.hid (Tk.done8_next hlt)
      obtain ⟨y0, y1⟩ := hy
      clear hp
      generalize Ru.g l k = y at *
      go_wp2_with fail
      go_roundw
      case rel => exact ⟨k + 1, by omega, by go_num, Lib.hid (by rw [HX.out, ← set_nums]; exact (HO.out.stored k _).1), Lib.hid (HB.out.setCell (Nat.le_refl _) _)⟩
      case measure => simp [RowKit.intOf]; omega
    · have hk' : k = l.length := by omega
      have HO2 : Hid (wr.ownsRow w.heap.size 5 1 (.slice (some ⟨w.heap.size, 0, none⟩) l.length l.length) l.length (nums .u8 (l.map Tk.p8I))) := Lib.hid (by have h := HO.out; rw [hk', Tk.done8_all] at h; exact h)
      have cv := own_conv HO2.out (by simp)
      rw [show strOfNums (l.map Tk.p8I) = Tk.plainT l from rfl] at cv
      have hsz := HB.out.size
      clear HO HO2
      obtain ⟨pl, hpl⟩ : ∃ pl, pl = Tk.plainT l := ⟨_, rfl⟩
      rw [← hpl] at cv
      have HPL := Lib.hid hpl
      clear hpl
      go_wp2_with fail
      go_ret
      exact ⟨wr.heap.size, A, cap, rfl, hsz, ⟨by rw [← HPL.out]; exact heap_alloc_new wr _, ((HA.out.below HB.out).more hsz).below ((Below.refl _ _).alloc (Nat.le_refl _) _)⟩, HB.out.alloc hsz _⟩
end Go.Proofs.YtppgklmliklkkaaDoor

/-
  The walk of Scan.
-/
namespace Go.Proofs.YtppgklmliklkkaaDoor
open Go.RowKit

/-- at the head of Scan's loop -/
def ScnAt (g : Nat) (A : Option Addr) (cap : Nat) (l : List Int) (pl : ByteArray) (w : World) (r : Nat) (v5 : Value) (wr : World) : Prop :=
  ∃ (k : Nat) (ts : List Tk.Tok), k ≤ l.length ∧ l.length - k ≤ r ∧ ts.length ≤ k ∧ Hid (Tk.scan l 0 = ts ++ Tk.scan l k) ∧ Hid (wr.ownsRow (g + 1) 29 3 v5 ts.length (Tk.cells ts)) ∧ Hid (Below w.heap.size w wr) ∧ Sc wr g A cap l pl k ∧ w.heap.size ≤ wr.heap.size

set_option maxHeartbeats 400000 in
theorem scan_long (n : Nat) (A : Option Addr) (cap : Nat) (w : World) (hm : 65536 < n) :
    Calls Tryd.prog 9 #[.slice A n cap] w fun e w' => e = .returned (.tuple #[.slice none 0 0, .int .i64 2]) ∧ w = w' := by
  go_enter Tryd.func9, Tryd.ntmps9
  go_wp2_with fail
  go_ret2
  exact ⟨rfl, rfl⟩

set_option maxHeartbeats 8000000 in
set_option maxRecDepth 100000 in
theorem scan_any (bl : List Int) (hl : Ru.By bl) (A0 : Option Addr) (cap0 : Nat) (w : World) (hm : bl.length ≤ 4000) (hcap : bl.length ≤ cap0) (hT : UTab w.heap.size w) (hA : Bs w w.heap.size .u8 A0 bl) :
    Calls Tryd.prog 9 #[.slice A0 bl.length cap0] w (Toks (Tk.scan (Ru.rd bl) 0) w) := by
  obtain ⟨i0, hi, hz0, hz1, hz2⟩ := info_parts Tryd.infoTok
  have CR := Lib.hid ((read_told bl hl A0 cap0 w (by omega) hcap hT hA).mono fun _ _ h => told h)
  have hC : Tk.Chr (Ru.rd bl) := Tk.rd_chr hl
  have HC := Lib.hid hC
  have hlen := Ru.rd_len' bl
  clear hA hl hT hC
  generalize Ru.rd bl = l at *
  have CN : Hid (∀ (A : Option Addr) (cap : Nat) (w1 : World), Bs w1 w1.heap.size .i32 A l → Calls Tryd.prog 11 #[.slice A l.length cap] w1 (NewS l w1)) := Lib.hid fun A cap w1 h => newScanner_any l HC.out A cap w1 (by omega) h
  go_enter Tryd.func9, Tryd.ntmps9
  go_wp2_with (first | (go_at_call 12; ((with_reducible refine (CR.out).mono ?_); rintro e w1 ⟨A1, c1, rfl, hc1, hB1, b1⟩)) | (go_at_call 11; ((with_reducible refine (CN.out _ _ _ hB1).mono ?_); rintro e w2 ⟨g, A, cap, rfl, hg, S, b2⟩)))
  have HB : Hid (Below w.heap.size w w2) := Lib.hid (below_next b1 b2)
  have hwg : w.heap.size ≤ g := Nat.le_trans b1.size hg
  have hws : w.heap.size ≤ w2.heap.size := Nat.le_trans b1.size b2.size
  clear b1 b2 hg hB1 CR CN
  have hPL := Tk.plainT_data l
  generalize Tk.plainT l = pl at *
  have HPL := Lib.hid hPL
  clear hPL
  go_loopg [5] l.length (fun r v5 wr => ScnAt g A cap l pl w r v5 wr)
  case atStart => exact ⟨0, [], by omega, by omega, by simp, Lib.hid rfl, Lib.hid (World.ownsRow_nil _ _ _ _), HB, S, hws⟩
  case round =>
    clear S HB hws
    obtain ⟨k, ts, hk, hr, hts, HS, HO, HB, S, hws⟩ := hrel
    obtain ⟨A5, c5, hv, hc5⟩ := row_slice HO.out
    subst hv
    have n16 : ((ts.length : Int) == 16384) = false := Ru.eq_f (by omega)
    have hc3 : ts.length + 1 ≤ maxLen := by unfold maxLen; omega
    have hc4 : (ts.length + 1) * 32 ≤ 140737488355328 := by omega
    have C0 : Hid (∀ w', Sc w' g A cap l pl k → Calls Tryd.prog 13 #[.pointer (some ⟨g, 0, none⟩), .int .i64 0] w' (Stp g A cap l pl k (.int .i32 (Tk.at' l k)) w')) := Lib.hid fun w' h => peek_any 0 0 rfl (by omega) hk (by omega) h
    by_cases hlt : k < l.length
    · have ha := HC.out.g hlt
      have n1 := Ru.ne_t (show ¬ Ru.g l k = -1 by omega)
      by_cases hgap : Ru.whiB (Tk.at' l k) = true ∨ Tk.opn l k = true
      · have hsl := Tk.sp_le l k false hk
        have hsg : k < (Tk.sp l k false).1 := Tk.sp_gt hgap
        have HD : Hid (Tk.scan l 0 = (ts ++ Tk.spTok (Tk.sp l k false).2) ++ Tk.scan l (Tk.sp l k false).1) := Lib.hid (by rw [HS.out, Tk.scan_gap hlt, List.append_assoc])
        have X0 : Hid (∀ w', Sc w' g A cap l pl k → Calls Tryd.prog 14 #[.pointer (some ⟨g, 0, none⟩)] w' (Stp g A cap l pl (Tk.sp l k false).1 (GapV (Tk.sp l k false).2) w')) := Lib.hid fun w' h => next_gap HC.out (by omega) hk hgap h
        rw [Tk.at_in hlt] at C0
        clear HS hgap
        generalize Ru.g l k = y at *
        generalize Tk.sp l k false = s at *
        obtain ⟨j, b⟩ := s
        simp only at hsl hsg HD X0
        cases b
        · go_wp2_with (first | (go_at_call 13; (first | (with_reducible refine (C0.out _ S).mono ?_)); rintro e w1 ⟨rfl, S, m1⟩; have HO := Lib.hid (own_mv HO.out m1 (Nat.lt_succ_self g)); have HB := Lib.hid (HB.out.trans (m1.below hwg hws)); have hws := Nat.le_trans hws m1.size; clear m1) | (go_at_call 14; (first | (with_reducible refine (X0.out _ S).mono ?_)); rintro e w1 ⟨he, S, m1⟩; unfold GapV tokV at he; subst he; have HO := Lib.hid (own_mv HO.out m1 (Nat.lt_succ_self g)); have HB := Lib.hid (HB.out.trans (m1.below hwg hws)); have hws := Nat.le_trans hws m1.size; clear m1))
          go_roundg (l.length - j)
          case measure => omega
          case rel => exact ⟨j, ts, by omega, by omega, by omega, Lib.hid (by rw [HD.out]; simp [Tk.spTok]), Lib.hid (HO.out.alloc _), Lib.hid (HB.out.alloc hws _), S.alloc _, by simp; omega⟩
        · go_wp2_with (first | (go_at_call 13; (first | (with_reducible refine (C0.out _ S).mono ?_)); rintro e w1 ⟨rfl, S, m1⟩; have HO := Lib.hid (own_mv HO.out m1 (Nat.lt_succ_self g)); have HB := Lib.hid (HB.out.trans (m1.below hwg hws)); have hws := Nat.le_trans hws m1.size; clear m1) | (go_at_call 14; (first | (with_reducible refine (X0.out _ S).mono ?_)); rintro e w1 ⟨he, S, m1⟩; unfold GapV tokV at he; subst he; have HO := Lib.hid (own_mv HO.out m1 (Nat.lt_succ_self g)); have HB := Lib.hid (HB.out.trans (m1.below hwg hws)); have hws := Nat.le_trans hws m1.size; clear m1) | (at_builtin; have E1 := (HO.out.alloc (.cells #[.int .i64 (1), .string (⟨#[]⟩), .int .i64 (0)] 29)).alloc (.cells #[.int .i64 (1), .string (⟨#[]⟩), .int .i64 (0)] 29); have E2 : g + 1 ≤ ((w1.alloc (.cells #[.int .i64 (1), .string (⟨#[]⟩), .int .i64 (0)] 29)).alloc (.cells #[.int .i64 (1), .string (⟨#[]⟩), .int .i64 (0)] 29)).heap.size := (by have := S.lt; simp; omega); refine wpList_append_own _ rfl _ _ 24 rfl (g + 1) 29 i0 zTok 3 32 Tryd.underlying24 hi hz0 hz1 hz2 rfl (by decide) _ _ _ rfl E1 ⟨w1.heap.size + 1, 0, none⟩ 1 1 [.int .i64 (1), .string (⟨#[]⟩), .int .i64 (0)] rfl rfl (three_cell _ _ (by simp) _ _ _) (three_ok _ _ _) hc3 hc4 E2 ?_; intro v' w3 hown3 hgrow _; have HO3 := Lib.hid (cells_next (t := (1, ⟨#[]⟩, 0)) hown3); have HG := Lib.hid ((((Below.refl (g + 1) w1).alloc S.lt (.cells #[.int .i64 (1), .string (⟨#[]⟩), .int .i64 (0)] 29)).alloc (by have := S.lt; simp; omega) (.cells #[.int .i64 (1), .string (⟨#[]⟩), .int .i64 (0)] 29)).grown hgrow E2 (fun x hx => (HO.out.lt x hx).1)); have S := S.below HG.out (Nat.lt_succ_self g); have HB := Lib.hid (HB.out.trans (HG.out.mono (Nat.le_succ_of_le hwg))); have hws := Nat.le_trans hws HG.out.size; clear hown3 hgrow E1 E2 HG))
          go_roundg (l.length - j)
          case measure => omega
          case rel => exact ⟨j, ts ++ [(1, ⟨#[]⟩, 0)], by omega, by omega, by simp; omega, Lib.hid (by rw [HD.out]; simp [Tk.spTok]), HO3, HB, S, hws⟩
      · have hw : Ru.whiB (Tk.at' l k) = false := by rw [Bool.eq_false_iff]; exact fun h => hgap (.inl h)
        have ho : Tk.opn l k = false := by rw [Bool.eq_false_iff]; exact fun h => hgap (.inr h)
        have hnx := Tk.nxt_le hlt
        have HD : Hid (Tk.scan l 0 = (ts ++ [Tk.tokOf (Tk.nxt l k)]) ++ Tk.scan l (Tk.nxt l k).2.2.2) := Lib.hid (by rw [HS.out, Tk.scan_tok hlt hw ho, List.append_assoc]; rfl)
        have X0 : Hid (∀ w', Sc w' g A cap l pl k → Calls Tryd.prog 14 #[.pointer (some ⟨g, 0, none⟩)] w' (Stp g A cap l pl (Tk.nxt l k).2.2.2 (NxtV (Tk.nxt l k)) w')) := Lib.hid fun w' h => next_tok HC.out (by omega) hlt HPL.out (by rw [← Tk.at_in hlt]; exact hw) ho h
        rw [Tk.at_in hlt] at C0
        clear HS hgap hw ho
        generalize Ru.g l k = y at *
        generalize Tk.nxt l k = s at *
        obtain ⟨kd, tx, nv, j⟩ := s
        simp only at hnx HD X0
        go_wp2_with (first | (go_at_call 13; (first | (with_reducible refine (C0.out _ S).mono ?_)); rintro e w1 ⟨rfl, S, m1⟩; have HO := Lib.hid (own_mv HO.out m1 (Nat.lt_succ_self g)); have HB := Lib.hid (HB.out.trans (m1.below hwg hws)); have hws := Nat.le_trans hws m1.size; clear m1) | (go_at_call 14; (first | (with_reducible refine (X0.out _ S).mono ?_)); rintro e w1 ⟨he, S, m1⟩; unfold NxtV tokV at he; subst he; have HO := Lib.hid (own_mv HO.out m1 (Nat.lt_succ_self g)); have HB := Lib.hid (HB.out.trans (m1.below hwg hws)); have hws := Nat.le_trans hws m1.size; clear m1) | (at_builtin; have E1 := (HO.out.alloc (.cells #[.int .i64 (kd), .string (tx), .int .i64 (nv)] 29)).alloc (.cells #[.int .i64 (kd), .string (tx), .int .i64 (nv)] 29); have E2 : g + 1 ≤ ((w1.alloc (.cells #[.int .i64 (kd), .string (tx), .int .i64 (nv)] 29)).alloc (.cells #[.int .i64 (kd), .string (tx), .int .i64 (nv)] 29)).heap.size := (by have := S.lt; simp; omega); refine wpList_append_own _ rfl _ _ 24 rfl (g + 1) 29 i0 zTok 3 32 Tryd.underlying24 hi hz0 hz1 hz2 rfl (by decide) _ _ _ rfl E1 ⟨w1.heap.size + 1, 0, none⟩ 1 1 [.int .i64 (kd), .string (tx), .int .i64 (nv)] rfl rfl (three_cell _ _ (by simp) _ _ _) (three_ok _ _ _) hc3 hc4 E2 ?_; intro v' w3 hown3 hgrow _; have HO3 := Lib.hid (cells_next (t := (kd, tx, nv)) hown3); have HG := Lib.hid ((((Below.refl (g + 1) w1).alloc S.lt (.cells #[.int .i64 (kd), .string (tx), .int .i64 (nv)] 29)).alloc (by have := S.lt; simp; omega) (.cells #[.int .i64 (kd), .string (tx), .int .i64 (nv)] 29)).grown hgrow E2 (fun x hx => (HO.out.lt x hx).1)); have S := S.below HG.out (Nat.lt_succ_self g); have HB := Lib.hid (HB.out.trans (HG.out.mono (Nat.le_succ_of_le hwg))); have hws := Nat.le_trans hws HG.out.size; clear hown3 hgrow E1 E2 HG))
        go_roundg (l.length - j)
        case measure => omega
        case rel => exact ⟨j, ts ++ [(kd, tx, nv)], by omega, by omega, by simp; omega, HD, HO3, HB, S, hws⟩
    · have HE : Hid (Tk.scan l 0 = ts) := Lib.hid (by rw [HS.out, Tk.scan_end hlt, List.append_nil])
      rw [Tk.at_out hlt] at C0
      clear HS
      go_wp2_with (go_at_call 13; (first | (with_reducible refine (C0.out _ S).mono ?_)); rintro e w1 ⟨rfl, S, m1⟩; have HO := Lib.hid (own_mv HO.out m1 (Nat.lt_succ_self g)); have HB := Lib.hid (HB.out.trans (m1.below hwg hws)); have hws := Nat.le_trans hws m1.size; clear m1)
      go_ret2
      exact ⟨_, rfl, by rw [HE.out]; exact own_le HO.out (Nat.le_succ_of_le hwg), HB.out⟩
end Go.Proofs.YtppgklmliklkkaaDoor
