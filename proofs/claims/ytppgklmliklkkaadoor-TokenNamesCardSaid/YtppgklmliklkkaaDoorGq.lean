/-
  Walks of the scanner's small functions: peek, pass, take.
-/
import Derived.Test.YtppgklmliklkkaaDoorGn
import Derived.Deep.QuietTactic
import Derived.BigQuiet
import Derived.RegionTactic
import Derived.Test.YtppgklmliklkkaaDoorGk
import Derived.Deep.LoopGhost
namespace Go.Proofs.YtppgklmliklkkaaDoor
open Go.RowKit

section
variable {w : World} {g cap k : Nat} {A : Option Addr} {l : List Int} {pl : ByteArray}
theorem stp_drewN {n : Nat} {v : Value} (h : Sc w g A cap l pl k) : Stp g A cap l pl k v w (.returned v) (w.drewN n) :=
  ⟨rfl, h.drewN n, (Mv.refl g w).drewN n⟩
theorem stp_at {n : Nat} {x y : Int} (e : x = y) (h : Sc w g A cap l pl k) : Stp g A cap l pl k (.int .i32 y) w (.returned (.int .i32 x)) (w.drewN n) := by
  subst e; exact stp_drewN h

set_option maxHeartbeats 400000 in
theorem peek_any (x : Int) (a : Nat) (hx : x = (a : Int)) (hm : l.length ≤ 65536) (hk : k ≤ l.length) (ha : a ≤ 4) (h : Sc w g A cap l pl k) :
    Calls Tryd.prog 13 #[.pointer (some ⟨g, 0, none⟩), .int .i64 x] w (Stp g A cap l pl k (.int .i32 (Tk.at' l (k + a))) w) := by
  subst hx
  have HS := Lib.hid h
  have c0 := h.c0
  have c1 := h.c1
  have e1 : IntKind.i64.wrap ((k : Int) + (a : Int)) = (k : Int) + (a : Int) := IntWalk.i64_in _ (by omega)
  have e2 : (0 : Int) ≤ (k : Int) + (a : Int) := by omega
  have e3 : ((k : Int) + (a : Int)).toNat = k + a := by omega
  by_cases hlt : k + a < l.length
  · obtain ⟨b, off, hA, hb, hp⟩ := h.on (by omega)
    subst hA
    have hc := hp (k + a) hlt
    rw [Tk.at_in hlt]
    generalize Ru.g l (k + a) = y at *
    clear hp h
    go_enter Tryd.func13, Tryd.ntmps13
    go_wp2_with fail
    go_quiet (fail)
    go_wp2_with fail
    go_quiet (fail)
    go_wp2_with fail
    go_ret
    exact ⟨rfl, (HS.out.drewN _).drewN _, ((Mv.refl _ _).drewN _).drewN _⟩
  · rw [Tk.at_out hlt]
    clear h
    go_enter Tryd.func13, Tryd.ntmps13
    go_wp2_with fail
    go_quiet (fail)
    go_wp2_with fail
    go_ret
    exact ⟨rfl, HS.out.drewN _, (Mv.refl _ _).drewN _⟩

theorem min_cast {k a n : Nat} : min ((k : Int) + (a : Int)) (n : Int) = ((min (k + a) n : Nat) : Int) := by omega
set_option maxHeartbeats 400000 in
theorem pass_any (x : Int) (a : Nat) (hx : x = (a : Int)) (hm : l.length ≤ 65536) (hk : k ≤ l.length) (ha : a ≤ 65536) (h : Sc w g A cap l pl k) :
    Calls Tryd.prog 37 #[.pointer (some ⟨g, 0, none⟩), .int .i64 x] w (Stp g A cap l pl (min (k + a) l.length) (.tuple #[]) w) := by
  subst hx
  have HS := Lib.hid h
  have c0 := h.c0
  have c1 := h.c1
  have f1 := h.f1
  have e1 : IntKind.i64.wrap ((k : Int) + (a : Int)) = (k : Int) + (a : Int) := IntWalk.i64_in _ (by omega)
  have e2 : (0 : Int) ≤ (k : Int) + (a : Int) := by omega
  clear h
  go_enter Tryd.func37, Tryd.ntmps37
  go_wp2_with fail
  go_region
  go_end0
  refine ⟨rfl, ?_, ?_⟩
  · rw [min_cast]; exact (HS.out.goes _).drewN 1
  · rw [min_cast]; exact ((Mv.refl _ _).set 1 _).drewN 1
end
end Go.Proofs.YtppgklmliklkkaaDoor

/-
  Walks of the scanner's tests: take, escapes, begins, names, opensComment.
-/
namespace Go.Proofs.YtppgklmliklkkaaDoor
open Go.RowKit

section
variable {w : World} {g cap k : Nat} {A : Option Addr} {l : List Int} {pl : ByteArray}
set_option maxHeartbeats 400000 in
theorem take_any (hm : l.length ≤ 65536) (hk : k ≤ l.length) (S : Sc w g A cap l pl k) :
    Calls Tryd.prog 24 #[.pointer (some ⟨g, 0, none⟩)] w (Stp g A cap l pl (min (k + 1) l.length) (.int .i32 (Tk.at' l k)) w) := by
  have C0 : Hid (∀ w', Sc w' g A cap l pl k → Calls Tryd.prog 13 #[.pointer (some ⟨g, 0, none⟩), .int .i64 0] w' (Stp g A cap l pl k (.int .i32 (Tk.at' l k)) w')) := Lib.hid fun w' h => peek_any 0 0 rfl hm hk (by omega) h
  have C1 : Hid (∀ w', Sc w' g A cap l pl k → Calls Tryd.prog 37 #[.pointer (some ⟨g, 0, none⟩), .int .i64 1] w' (Stp g A cap l pl (min (k + 1) l.length) (.tuple #[]) w')) := Lib.hid fun w' h => pass_any 1 1 rfl hm hk (by omega) h
  generalize Tk.at' l k = y at *
  have M := Mv.refl g w
  go_enter Tryd.func24, Tryd.ntmps24
  go_wp2_with (first | (go_at_call 13; (first | (with_reducible refine (C0.out _ S).mono ?_)); rintro e w1 ⟨rfl, S, m1⟩; have M := M.trans m1; clear m1) | (go_at_call 37; (first | (with_reducible refine (C1.out _ S).mono ?_)); rintro e w1 ⟨rfl, S, m1⟩; have M := M.trans m1; clear m1))
  go_ret
  exact ⟨rfl, S, M⟩
theorem take_in (hm : l.length ≤ 65536) (hk : k < l.length) (S : Sc w g A cap l pl k) :
    Calls Tryd.prog 24 #[.pointer (some ⟨g, 0, none⟩)] w (Stp g A cap l pl (k + 1) (.int .i32 (Tk.at' l k)) w) := by
  have := take_any hm (by omega) S
  rwa [Nat.min_eq_left (by omega)] at this

set_option maxHeartbeats 400000 in
theorem escapes_any (x : Int) (a : Nat) (hx : x = (a : Int)) (hN : ∀ c ∈ l, 0 ≤ c) (hm : l.length ≤ 65536) (hk : k ≤ l.length) (ha : a ≤ 2) (S : Sc w g A cap l pl k) :
    Calls Tryd.prog 23 #[.pointer (some ⟨g, 0, none⟩), .int .i64 x] w (Stp g A cap l pl k (.bool (Tk.esc l (k + a))) w) := by
  subst hx
  have C0 : Hid (∀ w', Sc w' g A cap l pl k → Calls Tryd.prog 13 #[.pointer (some ⟨g, 0, none⟩), .int .i64 a] w' (Stp g A cap l pl k (.int .i32 (Tk.at' l (k + a))) w')) := Lib.hid fun w' h => peek_any _ a rfl hm hk (by omega) h
  have C1 : Hid (∀ w', Sc w' g A cap l pl k → Calls Tryd.prog 13 #[.pointer (some ⟨g, 0, none⟩), .int .i64 ((a : Int) + 1)] w' (Stp g A cap l pl k (.int .i32 (Tk.at' l (k + a + 1))) w')) := Lib.hid fun w' h => peek_any _ (a + 1) (by omega) hm hk (by omega) h
  rw [Tk.esc_code hN]
  clear hN
  generalize Tk.at' l (k + a) = a0 at *
  generalize Tk.at' l (k + a + 1) = a1 at *
  have M := Mv.refl g w
  by_cases e0 : a0 = 92
  · subst e0
    by_cases e1 : a1 = 10
    · subst e1
      go_enter Tryd.func23, Tryd.ntmps23
      go_wp2_with (go_at_call 13; (first | (with_reducible refine (C0.out _ S).mono ?_) | (with_reducible refine (C1.out _ S).mono ?_)); rintro e w1 ⟨rfl, S, m1⟩; have M := M.trans m1; clear m1)
      go_ret
      exact ⟨rfl, S, M⟩
    · have f1 := Ru.ne_t e1
      by_cases e2 : a1 = -1
      · subst e2
        go_enter Tryd.func23, Tryd.ntmps23
        go_wp2_with (go_at_call 13; (first | (with_reducible refine (C0.out _ S).mono ?_) | (with_reducible refine (C1.out _ S).mono ?_)); rintro e w1 ⟨rfl, S, m1⟩; have M := M.trans m1; clear m1)
        go_ret
        exact ⟨rfl, S, M⟩
      · have f2 := Ru.ne_t e2
        go_enter Tryd.func23, Tryd.ntmps23
        go_wp2_with (go_at_call 13; (first | (with_reducible refine (C0.out _ S).mono ?_) | (with_reducible refine (C1.out _ S).mono ?_)); rintro e w1 ⟨rfl, S, m1⟩; have M := M.trans m1; clear m1)
        go_ret
        exact ⟨ret_bool (by simp [e1, e2]), S, M⟩
  · have f0 := Ru.ne_t e0
    go_enter Tryd.func23, Tryd.ntmps23
    go_wp2_with (go_at_call 13; (first | (with_reducible refine (C0.out _ S).mono ?_) | (with_reducible refine (C1.out _ S).mono ?_)); rintro e w1 ⟨rfl, S, m1⟩; have M := M.trans m1; clear m1)
    go_ret
    exact ⟨ret_bool (by simp [e0]), S, M⟩

set_option maxHeartbeats 400000 in
theorem begins_at (x : Int) (a : Nat) (hx : x = (a : Int)) (hN : ∀ c ∈ l, 0 ≤ c) (hm : l.length ≤ 65536) (hk : k ≤ l.length) (ha : a ≤ 2) (S : Sc w g A cap l pl k) :
    Calls Tryd.prog 42 #[.pointer (some ⟨g, 0, none⟩), .int .i64 x] w (Stp g A cap l pl k (.bool (Tk.may l (k + a))) w) := by
  subst hx
  have C0 : Hid (∀ w', Sc w' g A cap l pl k → Calls Tryd.prog 13 #[.pointer (some ⟨g, 0, none⟩), .int .i64 a] w' (Stp g A cap l pl k (.int .i32 (Tk.at' l (k + a))) w')) := Lib.hid fun w' h => peek_any _ a rfl hm hk (by omega) h
  have C1 : Hid (∀ w', Sc w' g A cap l pl k → Calls Tryd.prog 23 #[.pointer (some ⟨g, 0, none⟩), .int .i64 a] w' (Stp g A cap l pl k (.bool (Tk.esc l (k + a))) w')) := Lib.hid fun w' h => escapes_any _ a rfl hN hm hk ha h
  unfold Tk.may
  clear hN
  generalize Tk.at' l (k + a) = a0 at *
  generalize Tk.esc l (k + a) = b0 at *
  have M := Mv.refl g w
  cases hb : Ru.begB a0
  all_goals
    go_enter Tryd.func42, Tryd.ntmps42
    go_wp2_with (first | (go_at_call 13; (first | (with_reducible refine (C0.out _ S).mono ?_)); rintro e w1 ⟨rfl, S, m1⟩; have M := M.trans m1; clear m1) | (go_at_call 38; ((with_reducible refine (begins_any _ _).mono ?_); rintro e w1 ⟨rfl, rfl⟩)) | (go_at_call 23; (first | (with_reducible refine (C1.out _ S).mono ?_)); rintro e w1 ⟨rfl, S, m1⟩; have M := M.trans m1; clear m1))
    go_ret
    exact ⟨ret_bool (by simp), S, M⟩

set_option maxHeartbeats 400000 in
theorem names_any (x : Int) (a : Nat) (hx : x = (a : Int)) (hN : ∀ c ∈ l, 0 ≤ c) (hm : l.length ≤ 65536) (hk : k ≤ l.length) (ha : a ≤ 1) (S : Sc w g A cap l pl k) :
    Calls Tryd.prog 28 #[.pointer (some ⟨g, 0, none⟩), .int .i64 x] w (Stp g A cap l pl k (.bool (Tk.begs l (k + a))) w) := by
  subst hx
  have C0 : Hid (∀ w', Sc w' g A cap l pl k → Calls Tryd.prog 13 #[.pointer (some ⟨g, 0, none⟩), .int .i64 a] w' (Stp g A cap l pl k (.int .i32 (Tk.at' l (k + a))) w')) := Lib.hid fun w' h => peek_any _ a rfl hm hk (by omega) h
  have C1 : Hid (∀ w', Sc w' g A cap l pl k → Calls Tryd.prog 13 #[.pointer (some ⟨g, 0, none⟩), .int .i64 ((a : Int) + 1)] w' (Stp g A cap l pl k (.int .i32 (Tk.at' l (k + a + 1))) w')) := Lib.hid fun w' h => peek_any _ (a + 1) (by omega) hm hk (by omega) h
  have D0 : Hid (∀ w', Sc w' g A cap l pl k → Calls Tryd.prog 42 #[.pointer (some ⟨g, 0, none⟩), .int .i64 a] w' (Stp g A cap l pl k (.bool (Tk.may l (k + a))) w')) := Lib.hid fun w' h => begins_at _ a rfl hN hm hk (by omega) h
  have D1 : Hid (∀ w', Sc w' g A cap l pl k → Calls Tryd.prog 42 #[.pointer (some ⟨g, 0, none⟩), .int .i64 ((a : Int) + 1)] w' (Stp g A cap l pl k (.bool (Tk.may l (k + a + 1))) w')) := Lib.hid fun w' h => begins_at _ (a + 1) (by omega) hN hm hk (by omega) h
  rw [Tk.begs_code]
  clear hN
  generalize Tk.at' l (k + a) = a0 at *
  generalize Tk.at' l (k + a + 1) = a1 at *
  generalize Tk.may l (k + a) = b0 at *
  generalize Tk.may l (k + a + 1) = b1 at *
  have M := Mv.refl g w
  by_cases e0 : a0 = 45
  · subst e0
    by_cases e1 : a1 = 45
    · subst e1
      go_enter Tryd.func28, Tryd.ntmps28
      go_wp2_with (first | (go_at_call 13; (first | (with_reducible refine (C0.out _ S).mono ?_) | (with_reducible refine (C1.out _ S).mono ?_)); rintro e w1 ⟨rfl, S, m1⟩; have M := M.trans m1; clear m1) | (go_at_call 42; (first | (with_reducible refine (D0.out _ S).mono ?_) | (with_reducible refine (D1.out _ S).mono ?_)); rintro e w1 ⟨rfl, S, m1⟩; have M := M.trans m1; clear m1))
      go_ret
      exact ⟨ret_bool (by simp), S, M⟩
    · have f1 := Ru.eq_f e1
      go_enter Tryd.func28, Tryd.ntmps28
      go_wp2_with (first | (go_at_call 13; (first | (with_reducible refine (C0.out _ S).mono ?_) | (with_reducible refine (C1.out _ S).mono ?_)); rintro e w1 ⟨rfl, S, m1⟩; have M := M.trans m1; clear m1) | (go_at_call 42; (first | (with_reducible refine (D0.out _ S).mono ?_) | (with_reducible refine (D1.out _ S).mono ?_)); rintro e w1 ⟨rfl, S, m1⟩; have M := M.trans m1; clear m1))
      go_ret
      exact ⟨ret_bool (by simp [e1]), S, M⟩
  · have f0 := Ru.eq_f e0
    go_enter Tryd.func28, Tryd.ntmps28
    go_wp2_with (first | (go_at_call 13; (first | (with_reducible refine (C0.out _ S).mono ?_) | (with_reducible refine (C1.out _ S).mono ?_)); rintro e w1 ⟨rfl, S, m1⟩; have M := M.trans m1; clear m1) | (go_at_call 42; (first | (with_reducible refine (D0.out _ S).mono ?_) | (with_reducible refine (D1.out _ S).mono ?_)); rintro e w1 ⟨rfl, S, m1⟩; have M := M.trans m1; clear m1))
    go_ret
    exact ⟨ret_bool (by simp), S, M⟩

set_option maxHeartbeats 400000 in
theorem opens_any (hm : l.length ≤ 65536) (hk : k ≤ l.length) (S : Sc w g A cap l pl k) :
    Calls Tryd.prog 19 #[.pointer (some ⟨g, 0, none⟩)] w (Stp g A cap l pl k (.bool (Tk.opn l k)) w) := by
  have C0 : Hid (∀ w', Sc w' g A cap l pl k → Calls Tryd.prog 13 #[.pointer (some ⟨g, 0, none⟩), .int .i64 0] w' (Stp g A cap l pl k (.int .i32 (Tk.at' l k)) w')) := Lib.hid fun w' h => peek_any 0 0 rfl hm hk (by omega) h
  have C1 : Hid (∀ w', Sc w' g A cap l pl k → Calls Tryd.prog 13 #[.pointer (some ⟨g, 0, none⟩), .int .i64 1] w' (Stp g A cap l pl k (.int .i32 (Tk.at' l (k + 1))) w')) := Lib.hid fun w' h => peek_any 1 1 rfl hm hk (by omega) h
  unfold Tk.opn
  generalize Tk.at' l k = a0 at *
  generalize Tk.at' l (k + 1) = a1 at *
  have M := Mv.refl g w
  by_cases e0 : a0 = 47
  · subst e0
    by_cases e1 : a1 = 42
    · subst e1
      go_enter Tryd.func19, Tryd.ntmps19
      go_wp2_with (go_at_call 13; (first | (with_reducible refine (C0.out _ S).mono ?_) | (with_reducible refine (C1.out _ S).mono ?_)); rintro e w1 ⟨rfl, S, m1⟩; have M := M.trans m1; clear m1)
      go_ret
      exact ⟨rfl, S, M⟩
    · have f1 := Ru.eq_f e1
      go_enter Tryd.func19, Tryd.ntmps19
      go_wp2_with (go_at_call 13; (first | (with_reducible refine (C0.out _ S).mono ?_) | (with_reducible refine (C1.out _ S).mono ?_)); rintro e w1 ⟨rfl, S, m1⟩; have M := M.trans m1; clear m1)
      go_ret
      exact ⟨ret_bool (by simp [e1]), S, M⟩
  · have f0 := Ru.eq_f e0
    go_enter Tryd.func19, Tryd.ntmps19
    go_wp2_with (go_at_call 13; (first | (with_reducible refine (C0.out _ S).mono ?_) | (with_reducible refine (C1.out _ S).mono ?_)); rintro e w1 ⟨rfl, S, m1⟩; have M := M.trans m1; clear m1)
    go_ret
    exact ⟨ret_bool (by simp [e0]), S, M⟩
end
end Go.Proofs.YtppgklmliklkkaaDoor

/-
  Walks of the scanner's passComment and passGap.
-/
namespace Go.Proofs.YtppgklmliklkkaaDoor
open Go.RowKit

section
variable {w : World} {g cap k : Nat} {A : Option Addr} {l : List Int} {pl : ByteArray}

/-- in a comment that begins at k -/
def CmtC (g : Nat) (A : Option Addr) (cap : Nat) (l : List Int) (pl : ByteArray) (k : Nat) (w : World) (r : Nat) (wr : World) : Prop :=
  ∃ j, j ≤ l.length ∧ l.length - j ≤ r ∧ Hid (Tk.cmtE l (k + 2) = Tk.cmtE l j) ∧ Sc wr g A cap l pl j ∧ Mv g w wr

set_option maxHeartbeats 1000000 in
theorem passComment_any (hN : ∀ c ∈ l, 0 ≤ c) (hm : l.length ≤ 65536) (ho : Tk.opn l k = true) (S : Sc w g A cap l pl k) :
    Calls Tryd.prog 34 #[.pointer (some ⟨g, 0, none⟩)] w (Stp g A cap l pl (Tk.cmt l k) (.tuple #[]) w) := by
  have hk := Tk.opn_lt ho
  have HN := Lib.hid hN
  clear hN ho
  have P0 : Hid (∀ w', Sc w' g A cap l pl k → Calls Tryd.prog 37 #[.pointer (some ⟨g, 0, none⟩), .int .i64 2] w' (Stp g A cap l pl (k + 2) (.tuple #[]) w')) := Lib.hid fun w' h => by have := pass_any 2 2 rfl hm (by omega) (by omega) h; rwa [Nat.min_eq_left (by omega)] at this
  have M := Mv.refl g w
  go_enter Tryd.func34, Tryd.ntmps34
  go_wp2_with (go_at_call 37; (first | (with_reducible refine (P0.out _ S).mono ?_)); rintro e w1 ⟨rfl, S, m1⟩; have M := M.trans m1; clear m1)
  clear P0
  go_loopg [] l.length (fun r wr => CmtC g A cap l pl k w r wr)
  case atStart => exact ⟨k + 2, by omega, by omega, Lib.hid rfl, S, M⟩
  case round =>
    clear S M
    obtain ⟨j, hj, hr, HC, S, M⟩ := hrel
    have C0 : Hid (∀ w', Sc w' g A cap l pl j → Calls Tryd.prog 13 #[.pointer (some ⟨g, 0, none⟩), .int .i64 0] w' (Stp g A cap l pl j (.int .i32 (Tk.at' l j)) w')) := Lib.hid fun w' h => peek_any 0 0 rfl hm hj (by omega) h
    have C1 : Hid (∀ w', Sc w' g A cap l pl j → Calls Tryd.prog 13 #[.pointer (some ⟨g, 0, none⟩), .int .i64 1] w' (Stp g A cap l pl j (.int .i32 (Tk.at' l (j + 1))) w')) := Lib.hid fun w' h => peek_any 1 1 rfl hm hj (by omega) h
    have P2 : Hid (∀ w', Sc w' g A cap l pl j → Calls Tryd.prog 37 #[.pointer (some ⟨g, 0, none⟩), .int .i64 2] w' (Stp g A cap l pl (min (j + 2) l.length) (.tuple #[]) w')) := Lib.hid fun w' h => pass_any 2 2 rfl hm hj (by omega) h
    by_cases hlt : j < l.length
    · have h0 := Tk.at_neg HN.out hlt
      have f0 := Ru.ne_t (show ¬ Tk.at' l j = -1 by omega)
      have T0 : Hid (∀ w', Sc w' g A cap l pl j → Calls Tryd.prog 24 #[.pointer (some ⟨g, 0, none⟩)] w' (Stp g A cap l pl (j + 1) (.int .i32 (Tk.at' l j)) w')) := Lib.hid fun w' h => take_in hm hlt h
      by_cases e1 : Tk.at' l j = 42
      · by_cases e2 : Tk.at' l (j + 1) = 47
        · have HE : Hid (min (j + 2) l.length = Tk.cmt l k) := Lib.hid (by unfold Tk.cmt; rw [HC.out, Tk.cmtE_no (fun h => h.2 ⟨by rw [← Tk.at_in hlt]; exact e1, e2⟩)])
          rw [e1] at C0 f0
          rw [e2] at C1
          clear e1 e2 HC T0 h0
          go_wp2_with (first | (go_at_call 13; (first | (with_reducible refine (C0.out _ S).mono ?_) | (with_reducible refine (C1.out _ S).mono ?_)); rintro e w1 ⟨rfl, S, m1⟩; have M := M.trans m1; clear m1) | (go_at_call 37; (first | (with_reducible refine (P2.out _ S).mono ?_)); rintro e w1 ⟨rfl, S, m1⟩; have M := M.trans m1; clear m1))
          go_end0
          exact ⟨rfl, by rw [← HE.out]; exact S, M⟩
        · have HE : Hid (Tk.cmtE l (k + 2) = Tk.cmtE l (j + 1)) := Lib.hid (by rw [HC.out, Tk.cmtE_yes ⟨hlt, fun h => e2 h.2⟩])
          have f2 := Ru.ne_t e2
          rw [e1] at C0 f0
          clear e1 e2 HC P2 h0
          generalize Tk.at' l j = a0 at *
          generalize Tk.at' l (j + 1) = a1 at *
          go_wp2_with (first | (go_at_call 13; (first | (with_reducible refine (C0.out _ S).mono ?_) | (with_reducible refine (C1.out _ S).mono ?_)); rintro e w1 ⟨rfl, S, m1⟩; have M := M.trans m1; clear m1) | (go_at_call 24; (first | (with_reducible refine (T0.out _ S).mono ?_)); rintro e w1 ⟨rfl, S, m1⟩; have M := M.trans m1; clear m1))
          go_roundg (l.length - (j + 1))
          case measure => omega
          case rel => exact ⟨j + 1, by omega, by omega, HE, S, M⟩
      · have HE : Hid (Tk.cmtE l (k + 2) = Tk.cmtE l (j + 1)) := Lib.hid (by rw [HC.out, Tk.cmtE_yes ⟨hlt, fun h => e1 (by rw [Tk.at_in hlt]; exact h.1)⟩])
        have f1 := Ru.ne_t e1
        clear e1 HC P2 h0
        generalize Tk.at' l j = a0 at *
        generalize Tk.at' l (j + 1) = a1 at *
        go_wp2_with (first | (go_at_call 13; (first | (with_reducible refine (C0.out _ S).mono ?_) | (with_reducible refine (C1.out _ S).mono ?_)); rintro e w1 ⟨rfl, S, m1⟩; have M := M.trans m1; clear m1) | (go_at_call 24; (first | (with_reducible refine (T0.out _ S).mono ?_)); rintro e w1 ⟨rfl, S, m1⟩; have M := M.trans m1; clear m1))
        go_roundg (l.length - (j + 1))
        case measure => omega
        case rel => exact ⟨j + 1, by omega, by omega, HE, S, M⟩
    · have HE : Hid (min (j + 2) l.length = Tk.cmt l k) := Lib.hid (by unfold Tk.cmt; rw [HC.out, Tk.cmtE_no (fun h => hlt h.1)])
      have ha := Tk.at_out hlt
      rw [ha] at C0
      clear ha HC
      go_wp2_with (first | (go_at_call 13; (first | (with_reducible refine (C0.out _ S).mono ?_) | (with_reducible refine (C1.out _ S).mono ?_)); rintro e w1 ⟨rfl, S, m1⟩; have M := M.trans m1; clear m1) | (go_at_call 37; (first | (with_reducible refine (P2.out _ S).mono ?_)); rintro e w1 ⟨rfl, S, m1⟩; have M := M.trans m1; clear m1))
      go_end0
      exact ⟨rfl, by rw [← HE.out]; exact S, M⟩

/-- in a gap that begins at k -/
def GapC (g : Nat) (A : Option Addr) (cap : Nat) (l : List Int) (pl : ByteArray) (k : Nat) (w : World) (r : Nat) (v : Value) (wr : World) : Prop :=
  ∃ (j : Nat) (b : Bool), j ≤ l.length ∧ l.length - j ≤ r ∧ v = .bool b ∧ Hid (Tk.sp l k false = Tk.sp l j b) ∧ Sc wr g A cap l pl j ∧ Mv g w wr

set_option maxHeartbeats 1000000 in
theorem passGap_any (hN : ∀ c ∈ l, 0 ≤ c) (hm : l.length ≤ 65536) (hk : k ≤ l.length) (S : Sc w g A cap l pl k) :
    Calls Tryd.prog 20 #[.pointer (some ⟨g, 0, none⟩)] w (Stp g A cap l pl (Tk.sp l k false).1 (.bool (Tk.sp l k false).2) w) := by
  have HN := Lib.hid hN
  clear hN
  have M := Mv.refl g w
  go_enter Tryd.func20, Tryd.ntmps20
  go_wp2_with fail
  go_loopg [3] l.length (fun r v wr => GapC g A cap l pl k w r v wr)
  case atStart => exact ⟨k, false, hk, by omega, rfl, Lib.hid rfl, S, M⟩
  case round =>
    clear S M
    obtain ⟨j, b, hj, hr, rfl, HC, S, M⟩ := hrel
    have C0 : Hid (∀ w', Sc w' g A cap l pl j → Calls Tryd.prog 13 #[.pointer (some ⟨g, 0, none⟩), .int .i64 0] w' (Stp g A cap l pl j (.int .i32 (Tk.at' l j)) w')) := Lib.hid fun w' h => peek_any 0 0 rfl hm hj (by omega) h
    have O0 : Hid (∀ w', Sc w' g A cap l pl j → Calls Tryd.prog 19 #[.pointer (some ⟨g, 0, none⟩)] w' (Stp g A cap l pl j (.bool (Tk.opn l j)) w')) := Lib.hid fun w' h => opens_any hm hj h
    cases hw : Ru.whiB (Tk.at' l j)
    · cases ho : Tk.opn l j
      · have HE : Hid (Tk.sp l k false = (j, b)) := Lib.hid (by rw [HC.out, Tk.sp_no hw ho])
        rw [ho] at O0
        clear HC ho
        generalize Tk.at' l j = a0 at *
        go_wp2_with (first | (go_at_call 13; (first | (with_reducible refine (C0.out _ S).mono ?_)); rintro e w1 ⟨rfl, S, m1⟩; have M := M.trans m1; clear m1) | (go_at_call 18; ((with_reducible refine (white_any _ _).mono ?_); rintro e w1 ⟨rfl, rfl⟩)) | (go_at_call 19; (first | (with_reducible refine (O0.out _ S).mono ?_)); rintro e w1 ⟨rfl, S, m1⟩; have M := M.trans m1; clear m1))
        go_ret
        exact ⟨ret_bool (by rw [HE.out]), by rw [HE.out]; exact S, M⟩
      · have HE : Hid (Tk.sp l k false = Tk.sp l (Tk.cmt l j) b) := Lib.hid (by rw [HC.out, Tk.sp_opn hw ho])
        have hc := Tk.cmt_le ho
        have Q0 : Hid (∀ w', Sc w' g A cap l pl j → Calls Tryd.prog 34 #[.pointer (some ⟨g, 0, none⟩)] w' (Stp g A cap l pl (Tk.cmt l j) (.tuple #[]) w')) := Lib.hid fun w' h => passComment_any HN.out hm ho h
        rw [ho] at O0
        clear HC ho
        generalize Tk.at' l j = a0 at *
        generalize Tk.cmt l j = j2 at *
        go_wp2_with (first | (go_at_call 13; (first | (with_reducible refine (C0.out _ S).mono ?_)); rintro e w1 ⟨rfl, S, m1⟩; have M := M.trans m1; clear m1) | (go_at_call 18; ((with_reducible refine (white_any _ _).mono ?_); rintro e w1 ⟨rfl, rfl⟩)) | (go_at_call 19; (first | (with_reducible refine (O0.out _ S).mono ?_)); rintro e w1 ⟨rfl, S, m1⟩; have M := M.trans m1; clear m1) | (go_at_call 34; (first | (with_reducible refine (Q0.out _ S).mono ?_)); rintro e w1 ⟨rfl, S, m1⟩; have M := M.trans m1; clear m1))
        go_roundg (l.length - j2)
        case measure => omega
        case rel => exact ⟨j2, b, by omega, by omega, rfl, HE, S, M⟩
    · have HE : Hid (Tk.sp l k false = Tk.sp l (j + 1) true) := Lib.hid (by rw [HC.out, Tk.sp_white hw])
      have hlt := Tk.whi_lt hw
      have T0 : Hid (∀ w', Sc w' g A cap l pl j → Calls Tryd.prog 24 #[.pointer (some ⟨g, 0, none⟩)] w' (Stp g A cap l pl (j + 1) (.int .i32 (Tk.at' l j)) w')) := Lib.hid fun w' h => take_in hm hlt h
      clear HC
      generalize Tk.at' l j = a0 at *
      go_wp2_with (first | (go_at_call 13; (first | (with_reducible refine (C0.out _ S).mono ?_)); rintro e w1 ⟨rfl, S, m1⟩; have M := M.trans m1; clear m1) | (go_at_call 18; ((with_reducible refine (white_any _ _).mono ?_); rintro e w1 ⟨rfl, rfl⟩)) | (go_at_call 24; (first | (with_reducible refine (T0.out _ S).mono ?_)); rintro e w1 ⟨rfl, S, m1⟩; have M := M.trans m1; clear m1))
      go_roundg (l.length - (j + 1))
      case measure => omega
      case rel => exact ⟨j + 1, true, by omega, by omega, rfl, HE, S, M⟩
end
end Go.Proofs.YtppgklmliklkkaaDoor

/-
  The walk of the scanner's escape.
-/
namespace Go.Proofs.YtppgklmliklkkaaDoor
open Go.RowKit

section
variable {w : World} {g cap k : Nat} {A : Option Addr} {l : List Int} {pl : ByteArray}

theorem or16 {n h : Int} (n1 : 0 ≤ n) (n2 : n ≤ 16777215) (h1 : 0 ≤ h) (h2 : h ≤ 15) : bits .or .i32 (n * 16) h = n * 16 + h :=
  bits_join .i32 31 (by decide) wraps_i32 4 (n * 16) h (by omega) (by omega) (by omega) h1 (by omega) (by omega)
/-- at the head of escape's loop -/
def EscAt (g : Nat) (A : Option Addr) (cap : Nat) (l : List Int) (pl : ByteArray) (k : Nat) (w : World) (r : Nat) (v3 v4 : Value) (wr : World) : Prop :=
  ∃ (m j : Nat) (n : Int), m ≤ 6 ∧ 6 - m ≤ r ∧ v4 = .int .i64 m ∧ v3 = .int .i32 n ∧ j ≤ k + 1 + m ∧ k + 1 + m ≤ j ∧ j ≤ l.length ∧ 0 ≤ n ∧ n ≤ 16777215 ∧ Hid (Tk.hexR (6 - m) l j n = Tk.hexR 6 l (k + 1) 0) ∧ Hid (n < 16 ^ m) ∧ Sc wr g A cap l pl j ∧ Mv g w wr

set_option maxHeartbeats 4000000 in
theorem escape_any (hm : l.length ≤ 65536) (he : Tk.esc l k = true) (S : Sc w g A cap l pl k) :
    Calls Tryd.prog 36 #[.pointer (some ⟨g, 0, none⟩)] w (Stp g A cap l pl (Tk.meant l k).2 (.int .i32 (Tk.meant l k).1) w) := by
  have hk := (Tk.esc_lt he).1
  clear he
  have T0 : Hid (∀ w', Sc w' g A cap l pl k → Calls Tryd.prog 24 #[.pointer (some ⟨g, 0, none⟩)] w' (Stp g A cap l pl (k + 1) (.int .i32 (Tk.at' l k)) w')) := Lib.hid fun w' h => take_in hm (by omega) h
  have C0 : Hid (∀ w', Sc w' g A cap l pl (k + 1) → Calls Tryd.prog 13 #[.pointer (some ⟨g, 0, none⟩), .int .i64 0] w' (Stp g A cap l pl (k + 1) (.int .i32 (Tk.at' l (k + 1))) w')) := Lib.hid fun w' h => peek_any 0 0 rfl hm (by omega) (by omega) h
  have M := Mv.refl g w
  by_cases hh : 0 ≤ Ru.hexV (Tk.at' l (k + 1))
  · have HH0 := Lib.hid hh
    generalize Tk.at' l k = y at *
    generalize hy1 : Tk.at' l (k + 1) = y1 at *
    have HY1 := Lib.hid hy1
    clear hy1
    go_enter Tryd.func36, Tryd.ntmps36
    go_wp2_with (first | (go_at_call 13; (first | (with_reducible refine (C0.out _ S).mono ?_)); rintro e w1 ⟨rfl, S, m1⟩; have M := M.trans m1; clear m1) | (go_at_call 24; (first | (with_reducible refine (T0.out _ S).mono ?_)); rintro e w1 ⟨rfl, S, m1⟩; have M := M.trans m1; clear m1) | (go_at_call 48; ((with_reducible refine (hex_any _ _).mono ?_); rintro e w1 ⟨rfl, rfl⟩)) | (go_at_call 18; ((with_reducible refine (white_any _ _).mono ?_); rintro e w1 ⟨rfl, rfl⟩)) | (go_at_call 49; ((with_reducible refine (is_any _ _).mono ?_); rintro e w1 ⟨rfl, rfl⟩)))
    go_loopg [3, 4] 6 (fun r v3 v4 wr => EscAt g A cap l pl k w r v3 v4 wr)
    case atStart => exact ⟨0, k + 1, 0, by omega, by omega, by go_num, rfl, by omega, by omega, by omega, by omega, by omega, Lib.hid rfl, Lib.hid (by decide), S, M⟩
    case round =>
      clear S M C0 T0 hh
      obtain ⟨m, j, n, m1, hr, rfl, rfl, j1, j2, j3, n1, n2, HR, HN16, S, M⟩ := hrel
      have C0 : Hid (∀ w', Sc w' g A cap l pl j → Calls Tryd.prog 13 #[.pointer (some ⟨g, 0, none⟩), .int .i64 0] w' (Stp g A cap l pl j (.int .i32 (Tk.at' l j)) w')) := Lib.hid fun w' h => peek_any 0 0 rfl hm j3 (by omega) h
      by_cases hlt : m < 6
      · by_cases hh : 0 ≤ Ru.hexV (Tk.at' l j)
        · have hle := (Tk.hexV_le (Tk.at' l j)).2
          have hjl : j < l.length := Tk.at_lt (fun e => by rw [e, Tk.hexV_out] at hh; omega)
          have HX : Hid (Tk.hexR (6 - (m + 1)) l (j + 1) (n * 16 + Ru.hexV (Tk.at' l j)) = Tk.hexR 6 l (k + 1) 0) := Lib.hid (by
            have := Tk.hexR_yes (f := 6 - (m + 1)) (n := n) hh
            rw [← HR.out, show 6 - m = 6 - (m + 1) + 1 by omega, this])
          have hp5 := Tk.pow16 (m := m) (by omega)
          have hn3 : n ≤ 1048575 := by have := HN16.out; omega
          have HN' : Hid (n * 16 + Ru.hexV (Tk.at' l j) < 16 ^ (m + 1)) := Lib.hid (by have := HN16.out; rw [Int.pow_succ]; omega)
          clear HN16 HR hp5
          have T0 : Hid (∀ w', Sc w' g A cap l pl j → Calls Tryd.prog 24 #[.pointer (some ⟨g, 0, none⟩)] w' (Stp g A cap l pl (j + 1) (.int .i32 (Tk.at' l j)) w')) := Lib.hid fun w' h => take_in hm hjl h
          generalize Tk.at' l j = a at *
          generalize hhx : Ru.hexV a = h at *
          go_wp2_with (first | (go_at_call 13; (first | (with_reducible refine (C0.out _ S).mono ?_)); rintro e w1 ⟨rfl, S, m1⟩; have M := M.trans m1; clear m1) | (go_at_call 24; (first | (with_reducible refine (T0.out _ S).mono ?_)); rintro e w1 ⟨rfl, S, m1⟩; have M := M.trans m1; clear m1) | (go_at_call 48; ((with_reducible refine (hex_any _ _).mono ?_); rintro e w1 ⟨rfl, rfl⟩)) | (go_at_call 18; ((with_reducible refine (white_any _ _).mono ?_); rintro e w1 ⟨rfl, rfl⟩)) | (go_at_call 49; ((with_reducible refine (is_any _ _).mono ?_); rintro e w1 ⟨rfl, rfl⟩)))
          go_roundg (6 - (m + 1))
          case measure => omega
          case rel => exact ⟨m + 1, j + 1, n * 16 + h, by omega, by omega, by go_num, by rw [or16 n1 (by omega) (by omega) (by omega)], by omega, by omega, by omega, by omega, by omega, HX, HN', S, M⟩
        · have HE : Hid (Tk.hexR 6 l (k + 1) 0 = (n, j)) := Lib.hid (by rw [← HR.out, Tk.hexR_no hh])
          have hh' : Ru.hexV (Tk.at' l j) < 0 := by omega
          have m0 : m ≠ 0 := fun e => by
            have e2 : j = k + 1 := by omega
            rw [e2, HY1.out] at hh
            exact hh HH0.out
          clear hh
          have HM := Lib.hid (Tk.meant_some HE.out (by omega))
          have HK : Hid (Tk.meantK l j = if Ru.whiB (Tk.at' l j) = true then j + 1 else j) := Lib.hid rfl
          have HW : Hid (Ru.whiB (Tk.at' l j) = true → j < l.length) := Lib.hid Tk.whi_lt
          clear HE HR HN16 HH0
          have T1 : Hid (j < l.length → ∀ w', Sc w' g A cap l pl j → Calls Tryd.prog 24 #[.pointer (some ⟨g, 0, none⟩)] w' (Stp g A cap l pl (j + 1) (.int .i32 (Tk.at' l j)) w')) := Lib.hid fun hlt w' h => take_in hm hlt h
          generalize Tk.at' l j = a at *
          by_cases n0 : n = 0
          · subst n0
            have HV2 : Hid (Tk.meantN 0 = 65533) := Lib.hid rfl
            cases hw : Ru.whiB a
            · rw [hw] at HK
              go_wp2_with (first | (go_at_call 13; (first | (with_reducible refine (C0.out _ S).mono ?_)); rintro e w1 ⟨rfl, S, m1⟩; have M := M.trans m1; clear m1) | (go_at_call 24; (first | (with_reducible refine (T0.out _ S).mono ?_)); rintro e w1 ⟨rfl, S, m1⟩; have M := M.trans m1; clear m1) | (go_at_call 48; ((with_reducible refine (hex_any _ _).mono ?_); rintro e w1 ⟨rfl, rfl⟩)) | (go_at_call 18; ((with_reducible refine (white_any _ _).mono ?_); rintro e w1 ⟨rfl, rfl⟩)) | (go_at_call 49; ((with_reducible refine (is_any _ _).mono ?_); rintro e w1 ⟨rfl, rfl⟩)))
              go_ret
              exact ⟨ret_int (by rw [HM.out]; exact HV2.out.symm), by rw [HM.out, HK.out]; simpa using S, M⟩
            · rw [hw] at HK
              have T0 := Lib.hid (T1.out (HW.out hw))
              go_wp2_with (first | (go_at_call 13; (first | (with_reducible refine (C0.out _ S).mono ?_)); rintro e w1 ⟨rfl, S, m1⟩; have M := M.trans m1; clear m1) | (go_at_call 24; (first | (with_reducible refine (T0.out _ S).mono ?_)); rintro e w1 ⟨rfl, S, m1⟩; have M := M.trans m1; clear m1) | (go_at_call 48; ((with_reducible refine (hex_any _ _).mono ?_); rintro e w1 ⟨rfl, rfl⟩)) | (go_at_call 18; ((with_reducible refine (white_any _ _).mono ?_); rintro e w1 ⟨rfl, rfl⟩)) | (go_at_call 49; ((with_reducible refine (is_any _ _).mono ?_); rintro e w1 ⟨rfl, rfl⟩)))
              go_ret
              exact ⟨ret_int (by rw [HM.out]; exact HV2.out.symm), by rw [HM.out, HK.out]; simpa using S, M⟩
          · have en : ((n : Int) == 0) = false := Ru.eq_f n0
            cases hi : Ru.isB n
            · have HV2 : Hid (Tk.meantN n = 65533) := Lib.hid (by unfold Tk.meantN; rw [if_pos (Or.inr hi)])
              cases hw : Ru.whiB a
              · rw [hw] at HK
                go_wp2_with (first | (go_at_call 13; (first | (with_reducible refine (C0.out _ S).mono ?_)); rintro e w1 ⟨rfl, S, m1⟩; have M := M.trans m1; clear m1) | (go_at_call 24; (first | (with_reducible refine (T0.out _ S).mono ?_)); rintro e w1 ⟨rfl, S, m1⟩; have M := M.trans m1; clear m1) | (go_at_call 48; ((with_reducible refine (hex_any _ _).mono ?_); rintro e w1 ⟨rfl, rfl⟩)) | (go_at_call 18; ((with_reducible refine (white_any _ _).mono ?_); rintro e w1 ⟨rfl, rfl⟩)) | (go_at_call 49; ((with_reducible refine (is_any _ _).mono ?_); rintro e w1 ⟨rfl, rfl⟩)))
                go_ret
                exact ⟨ret_int (by rw [HM.out, HV2.out]), by rw [HM.out, HK.out]; simpa using S, M⟩
              · rw [hw] at HK
                have T0 := Lib.hid (T1.out (HW.out hw))
                go_wp2_with (first | (go_at_call 13; (first | (with_reducible refine (C0.out _ S).mono ?_)); rintro e w1 ⟨rfl, S, m1⟩; have M := M.trans m1; clear m1) | (go_at_call 24; (first | (with_reducible refine (T0.out _ S).mono ?_)); rintro e w1 ⟨rfl, S, m1⟩; have M := M.trans m1; clear m1) | (go_at_call 48; ((with_reducible refine (hex_any _ _).mono ?_); rintro e w1 ⟨rfl, rfl⟩)) | (go_at_call 18; ((with_reducible refine (white_any _ _).mono ?_); rintro e w1 ⟨rfl, rfl⟩)) | (go_at_call 49; ((with_reducible refine (is_any _ _).mono ?_); rintro e w1 ⟨rfl, rfl⟩)))
                go_ret
                exact ⟨ret_int (by rw [HM.out, HV2.out]), by rw [HM.out, HK.out]; simpa using S, M⟩
            · have HV2 : Hid (Tk.meantN n = n) := Lib.hid (by unfold Tk.meantN; rw [if_neg (by rw [hi]; simp [n0])])
              cases hw : Ru.whiB a
              · rw [hw] at HK
                go_wp2_with (first | (go_at_call 13; (first | (with_reducible refine (C0.out _ S).mono ?_)); rintro e w1 ⟨rfl, S, m1⟩; have M := M.trans m1; clear m1) | (go_at_call 24; (first | (with_reducible refine (T0.out _ S).mono ?_)); rintro e w1 ⟨rfl, S, m1⟩; have M := M.trans m1; clear m1) | (go_at_call 48; ((with_reducible refine (hex_any _ _).mono ?_); rintro e w1 ⟨rfl, rfl⟩)) | (go_at_call 18; ((with_reducible refine (white_any _ _).mono ?_); rintro e w1 ⟨rfl, rfl⟩)) | (go_at_call 49; ((with_reducible refine (is_any _ _).mono ?_); rintro e w1 ⟨rfl, rfl⟩)))
                go_ret
                exact ⟨ret_int (by rw [HM.out, HV2.out]), by rw [HM.out, HK.out]; simpa using S, M⟩
              · rw [hw] at HK
                have T0 := Lib.hid (T1.out (HW.out hw))
                go_wp2_with (first | (go_at_call 13; (first | (with_reducible refine (C0.out _ S).mono ?_)); rintro e w1 ⟨rfl, S, m1⟩; have M := M.trans m1; clear m1) | (go_at_call 24; (first | (with_reducible refine (T0.out _ S).mono ?_)); rintro e w1 ⟨rfl, S, m1⟩; have M := M.trans m1; clear m1) | (go_at_call 48; ((with_reducible refine (hex_any _ _).mono ?_); rintro e w1 ⟨rfl, rfl⟩)) | (go_at_call 18; ((with_reducible refine (white_any _ _).mono ?_); rintro e w1 ⟨rfl, rfl⟩)) | (go_at_call 49; ((with_reducible refine (is_any _ _).mono ?_); rintro e w1 ⟨rfl, rfl⟩)))
                go_ret
                exact ⟨ret_int (by rw [HM.out, HV2.out]), by rw [HM.out, HK.out]; simpa using S, M⟩
      · have HE : Hid (Tk.hexR 6 l (k + 1) 0 = (n, j)) := Lib.hid (by rw [← HR.out, show 6 - m = 0 by omega]; rfl)
        have HM := Lib.hid (Tk.meant_some HE.out (by omega))
        have HK : Hid (Tk.meantK l j = if Ru.whiB (Tk.at' l j) = true then j + 1 else j) := Lib.hid rfl
        have HW : Hid (Ru.whiB (Tk.at' l j) = true → j < l.length) := Lib.hid Tk.whi_lt
        clear HE HR HN16 HH0
        have T1 : Hid (j < l.length → ∀ w', Sc w' g A cap l pl j → Calls Tryd.prog 24 #[.pointer (some ⟨g, 0, none⟩)] w' (Stp g A cap l pl (j + 1) (.int .i32 (Tk.at' l j)) w')) := Lib.hid fun hlt w' h => take_in hm hlt h
        generalize Tk.at' l j = a at *
        by_cases n0 : n = 0
        · subst n0
          have HV2 : Hid (Tk.meantN 0 = 65533) := Lib.hid rfl
          cases hw : Ru.whiB a
          · rw [hw] at HK
            go_wp2_with (first | (go_at_call 13; (first | (with_reducible refine (C0.out _ S).mono ?_)); rintro e w1 ⟨rfl, S, m1⟩; have M := M.trans m1; clear m1) | (go_at_call 24; (first | (with_reducible refine (T0.out _ S).mono ?_)); rintro e w1 ⟨rfl, S, m1⟩; have M := M.trans m1; clear m1) | (go_at_call 48; ((with_reducible refine (hex_any _ _).mono ?_); rintro e w1 ⟨rfl, rfl⟩)) | (go_at_call 18; ((with_reducible refine (white_any _ _).mono ?_); rintro e w1 ⟨rfl, rfl⟩)) | (go_at_call 49; ((with_reducible refine (is_any _ _).mono ?_); rintro e w1 ⟨rfl, rfl⟩)))
            go_ret
            exact ⟨ret_int (by rw [HM.out]; exact HV2.out.symm), by rw [HM.out, HK.out]; simpa using S, M⟩
          · rw [hw] at HK
            have T0 := Lib.hid (T1.out (HW.out hw))
            go_wp2_with (first | (go_at_call 13; (first | (with_reducible refine (C0.out _ S).mono ?_)); rintro e w1 ⟨rfl, S, m1⟩; have M := M.trans m1; clear m1) | (go_at_call 24; (first | (with_reducible refine (T0.out _ S).mono ?_)); rintro e w1 ⟨rfl, S, m1⟩; have M := M.trans m1; clear m1) | (go_at_call 48; ((with_reducible refine (hex_any _ _).mono ?_); rintro e w1 ⟨rfl, rfl⟩)) | (go_at_call 18; ((with_reducible refine (white_any _ _).mono ?_); rintro e w1 ⟨rfl, rfl⟩)) | (go_at_call 49; ((with_reducible refine (is_any _ _).mono ?_); rintro e w1 ⟨rfl, rfl⟩)))
            go_ret
            exact ⟨ret_int (by rw [HM.out]; exact HV2.out.symm), by rw [HM.out, HK.out]; simpa using S, M⟩
        · have en : ((n : Int) == 0) = false := Ru.eq_f n0
          cases hi : Ru.isB n
          · have HV2 : Hid (Tk.meantN n = 65533) := Lib.hid (by unfold Tk.meantN; rw [if_pos (Or.inr hi)])
            cases hw : Ru.whiB a
            · rw [hw] at HK
              go_wp2_with (first | (go_at_call 13; (first | (with_reducible refine (C0.out _ S).mono ?_)); rintro e w1 ⟨rfl, S, m1⟩; have M := M.trans m1; clear m1) | (go_at_call 24; (first | (with_reducible refine (T0.out _ S).mono ?_)); rintro e w1 ⟨rfl, S, m1⟩; have M := M.trans m1; clear m1) | (go_at_call 48; ((with_reducible refine (hex_any _ _).mono ?_); rintro e w1 ⟨rfl, rfl⟩)) | (go_at_call 18; ((with_reducible refine (white_any _ _).mono ?_); rintro e w1 ⟨rfl, rfl⟩)) | (go_at_call 49; ((with_reducible refine (is_any _ _).mono ?_); rintro e w1 ⟨rfl, rfl⟩)))
              go_ret
              exact ⟨ret_int (by rw [HM.out, HV2.out]), by rw [HM.out, HK.out]; simpa using S, M⟩
            · rw [hw] at HK
              have T0 := Lib.hid (T1.out (HW.out hw))
              go_wp2_with (first | (go_at_call 13; (first | (with_reducible refine (C0.out _ S).mono ?_)); rintro e w1 ⟨rfl, S, m1⟩; have M := M.trans m1; clear m1) | (go_at_call 24; (first | (with_reducible refine (T0.out _ S).mono ?_)); rintro e w1 ⟨rfl, S, m1⟩; have M := M.trans m1; clear m1) | (go_at_call 48; ((with_reducible refine (hex_any _ _).mono ?_); rintro e w1 ⟨rfl, rfl⟩)) | (go_at_call 18; ((with_reducible refine (white_any _ _).mono ?_); rintro e w1 ⟨rfl, rfl⟩)) | (go_at_call 49; ((with_reducible refine (is_any _ _).mono ?_); rintro e w1 ⟨rfl, rfl⟩)))
              go_ret
              exact ⟨ret_int (by rw [HM.out, HV2.out]), by rw [HM.out, HK.out]; simpa using S, M⟩
          · have HV2 : Hid (Tk.meantN n = n) := Lib.hid (by unfold Tk.meantN; rw [if_neg (by rw [hi]; simp [n0])])
            cases hw : Ru.whiB a
            · rw [hw] at HK
              go_wp2_with (first | (go_at_call 13; (first | (with_reducible refine (C0.out _ S).mono ?_)); rintro e w1 ⟨rfl, S, m1⟩; have M := M.trans m1; clear m1) | (go_at_call 24; (first | (with_reducible refine (T0.out _ S).mono ?_)); rintro e w1 ⟨rfl, S, m1⟩; have M := M.trans m1; clear m1) | (go_at_call 48; ((with_reducible refine (hex_any _ _).mono ?_); rintro e w1 ⟨rfl, rfl⟩)) | (go_at_call 18; ((with_reducible refine (white_any _ _).mono ?_); rintro e w1 ⟨rfl, rfl⟩)) | (go_at_call 49; ((with_reducible refine (is_any _ _).mono ?_); rintro e w1 ⟨rfl, rfl⟩)))
              go_ret
              exact ⟨ret_int (by rw [HM.out, HV2.out]), by rw [HM.out, HK.out]; simpa using S, M⟩
            · rw [hw] at HK
              have T0 := Lib.hid (T1.out (HW.out hw))
              go_wp2_with (first | (go_at_call 13; (first | (with_reducible refine (C0.out _ S).mono ?_)); rintro e w1 ⟨rfl, S, m1⟩; have M := M.trans m1; clear m1) | (go_at_call 24; (first | (with_reducible refine (T0.out _ S).mono ?_)); rintro e w1 ⟨rfl, S, m1⟩; have M := M.trans m1; clear m1) | (go_at_call 48; ((with_reducible refine (hex_any _ _).mono ?_); rintro e w1 ⟨rfl, rfl⟩)) | (go_at_call 18; ((with_reducible refine (white_any _ _).mono ?_); rintro e w1 ⟨rfl, rfl⟩)) | (go_at_call 49; ((with_reducible refine (is_any _ _).mono ?_); rintro e w1 ⟨rfl, rfl⟩)))
              go_ret
              exact ⟨ret_int (by rw [HM.out, HV2.out]), by rw [HM.out, HK.out]; simpa using S, M⟩
  · have hh' : Ru.hexV (Tk.at' l (k + 1)) < 0 := by omega
    have HM : Hid (Tk.meant l k = (Tk.at' l (k + 1), k + 2)) := Lib.hid (by
      rw [Tk.at_in hk]
      exact Tk.meant_none (n := 0) (Tk.hexR_no (by rw [show k + 1 = k + 1 from rfl]; omega)))
    have T1 : Hid (∀ w', Sc w' g A cap l pl (k + 1) → Calls Tryd.prog 24 #[.pointer (some ⟨g, 0, none⟩)] w' (Stp g A cap l pl (k + 2) (.int .i32 (Tk.at' l (k + 1))) w')) := Lib.hid fun w' h => take_in hm hk h
    clear hh
    generalize Tk.at' l k = y at *
    generalize Tk.at' l (k + 1) = y1 at *
    go_enter Tryd.func36, Tryd.ntmps36
    go_wp2_with (first | (go_at_call 13; (first | (with_reducible refine (C0.out _ S).mono ?_)); rintro e w1 ⟨rfl, S, m1⟩; have M := M.trans m1; clear m1) | (go_at_call 24; (first | (with_reducible refine (T0.out _ S).mono ?_) | (with_reducible refine (T1.out _ S).mono ?_)); rintro e w1 ⟨rfl, S, m1⟩; have M := M.trans m1; clear m1) | (go_at_call 48; ((with_reducible refine (hex_any _ _).mono ?_); rintro e w1 ⟨rfl, rfl⟩)) | (go_at_call 18; ((with_reducible refine (white_any _ _).mono ?_); rintro e w1 ⟨rfl, rfl⟩)) | (go_at_call 49; ((with_reducible refine (is_any _ _).mono ?_); rintro e w1 ⟨rfl, rfl⟩)))
    go_ret
    exact ⟨ret_int (by rw [HM.out]), by rw [HM.out]; exact S, M⟩
end
end Go.Proofs.YtppgklmliklkkaaDoor
