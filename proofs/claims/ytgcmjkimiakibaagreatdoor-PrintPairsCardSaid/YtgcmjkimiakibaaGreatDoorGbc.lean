/-
  Walks of the scanner's tests: take, escapes, begins, names, opensComment.
-/
import Derived.Test.YtgcmjkimiakibaaGreatDoorGbb
import Derived.Test.YtgcmjkimiakibaaGreatDoorGae
import Derived.Test.YtgcmjkimiakibaaGreatDoorGay
import Derived.Deep.LoopGhost
import Derived.Test.YtgcmjkimiakibaaGreatDoorGac
namespace Go.Proofs.YtgcmjkimiakibaaGreatDoor
open Go.RowKit

section
variable {w : World} {g cap k : Nat} {A : Option Addr} {l : List Int} {pl : ByteArray}
set_option maxHeartbeats 400000 in
theorem take_any (hm : l.length ≤ 65536) (hk : k ≤ l.length) (S : Sc w g A cap l pl k) :
    Calls Tryz.prog 39 #[.pointer (some ⟨g, 0, none⟩)] w (Stp g A cap l pl (min (k + 1) l.length) (.int .i32 (Tk.at' l k)) w) := by
  have C0 : Hid (∀ w', Sc w' g A cap l pl k → Calls Tryz.prog 17 #[.pointer (some ⟨g, 0, none⟩), .int .i64 0] w' (Stp g A cap l pl k (.int .i32 (Tk.at' l k)) w')) := Lib.hid fun w' h => peek_any 0 0 rfl hm hk (by omega) h
  have C1 : Hid (∀ w', Sc w' g A cap l pl k → Calls Tryz.prog 71 #[.pointer (some ⟨g, 0, none⟩), .int .i64 1] w' (Stp g A cap l pl (min (k + 1) l.length) (.tuple #[]) w')) := Lib.hid fun w' h => pass_any 1 1 rfl hm hk (by omega) h
  generalize Tk.at' l k = y at *
  have M := Mv.refl g w
  go_enter Tryz.func39, Tryz.ntmps39
  go_wp2_with (first | (go_at_call 17; (first | (with_reducible refine (C0.out _ S).mono ?_)); rintro e w1 ⟨rfl, S, m1⟩; have M := M.trans m1; clear m1) | (go_at_call 71; (first | (with_reducible refine (C1.out _ S).mono ?_)); rintro e w1 ⟨rfl, S, m1⟩; have M := M.trans m1; clear m1))
  go_ret
  exact ⟨rfl, S, M⟩
theorem take_in (hm : l.length ≤ 65536) (hk : k < l.length) (S : Sc w g A cap l pl k) :
    Calls Tryz.prog 39 #[.pointer (some ⟨g, 0, none⟩)] w (Stp g A cap l pl (k + 1) (.int .i32 (Tk.at' l k)) w) := by
  have := take_any hm (by omega) S
  rwa [Nat.min_eq_left (by omega)] at this

set_option maxHeartbeats 400000 in
theorem escapes_any (x : Int) (a : Nat) (hx : x = (a : Int)) (hN : ∀ c ∈ l, 0 ≤ c) (hm : l.length ≤ 65536) (hk : k ≤ l.length) (ha : a ≤ 2) (S : Sc w g A cap l pl k) :
    Calls Tryz.prog 38 #[.pointer (some ⟨g, 0, none⟩), .int .i64 x] w (Stp g A cap l pl k (.bool (Tk.esc l (k + a))) w) := by
  subst hx
  have C0 : Hid (∀ w', Sc w' g A cap l pl k → Calls Tryz.prog 17 #[.pointer (some ⟨g, 0, none⟩), .int .i64 a] w' (Stp g A cap l pl k (.int .i32 (Tk.at' l (k + a))) w')) := Lib.hid fun w' h => peek_any _ a rfl hm hk (by omega) h
  have C1 : Hid (∀ w', Sc w' g A cap l pl k → Calls Tryz.prog 17 #[.pointer (some ⟨g, 0, none⟩), .int .i64 ((a : Int) + 1)] w' (Stp g A cap l pl k (.int .i32 (Tk.at' l (k + a + 1))) w')) := Lib.hid fun w' h => peek_any _ (a + 1) (by omega) hm hk (by omega) h
  rw [Tk.esc_code hN]
  clear hN
  generalize Tk.at' l (k + a) = a0 at *
  generalize Tk.at' l (k + a + 1) = a1 at *
  have M := Mv.refl g w
  by_cases e0 : a0 = 92
  · subst e0
    by_cases e1 : a1 = 10
    · subst e1
      go_enter Tryz.func38, Tryz.ntmps38
      go_wp2_with (go_at_call 17; (first | (with_reducible refine (C0.out _ S).mono ?_) | (with_reducible refine (C1.out _ S).mono ?_)); rintro e w1 ⟨rfl, S, m1⟩; have M := M.trans m1; clear m1)
      go_ret
      exact ⟨rfl, S, M⟩
    · have f1 := Ru.ne_t e1
      by_cases e2 : a1 = -1
      · subst e2
        go_enter Tryz.func38, Tryz.ntmps38
        go_wp2_with (go_at_call 17; (first | (with_reducible refine (C0.out _ S).mono ?_) | (with_reducible refine (C1.out _ S).mono ?_)); rintro e w1 ⟨rfl, S, m1⟩; have M := M.trans m1; clear m1)
        go_ret
        exact ⟨rfl, S, M⟩
      · have f2 := Ru.ne_t e2
        go_enter Tryz.func38, Tryz.ntmps38
        go_wp2_with (go_at_call 17; (first | (with_reducible refine (C0.out _ S).mono ?_) | (with_reducible refine (C1.out _ S).mono ?_)); rintro e w1 ⟨rfl, S, m1⟩; have M := M.trans m1; clear m1)
        go_ret
        exact ⟨ret_bool (by simp [e1, e2]), S, M⟩
  · have f0 := Ru.ne_t e0
    go_enter Tryz.func38, Tryz.ntmps38
    go_wp2_with (go_at_call 17; (first | (with_reducible refine (C0.out _ S).mono ?_) | (with_reducible refine (C1.out _ S).mono ?_)); rintro e w1 ⟨rfl, S, m1⟩; have M := M.trans m1; clear m1)
    go_ret
    exact ⟨ret_bool (by simp [e0]), S, M⟩

set_option maxHeartbeats 400000 in
theorem begins_at (x : Int) (a : Nat) (hx : x = (a : Int)) (hN : ∀ c ∈ l, 0 ≤ c) (hm : l.length ≤ 65536) (hk : k ≤ l.length) (ha : a ≤ 2) (S : Sc w g A cap l pl k) :
    Calls Tryz.prog 76 #[.pointer (some ⟨g, 0, none⟩), .int .i64 x] w (Stp g A cap l pl k (.bool (Tk.may l (k + a))) w) := by
  subst hx
  have C0 : Hid (∀ w', Sc w' g A cap l pl k → Calls Tryz.prog 17 #[.pointer (some ⟨g, 0, none⟩), .int .i64 a] w' (Stp g A cap l pl k (.int .i32 (Tk.at' l (k + a))) w')) := Lib.hid fun w' h => peek_any _ a rfl hm hk (by omega) h
  have C1 : Hid (∀ w', Sc w' g A cap l pl k → Calls Tryz.prog 38 #[.pointer (some ⟨g, 0, none⟩), .int .i64 a] w' (Stp g A cap l pl k (.bool (Tk.esc l (k + a))) w')) := Lib.hid fun w' h => escapes_any _ a rfl hN hm hk ha h
  unfold Tk.may
  clear hN
  generalize Tk.at' l (k + a) = a0 at *
  generalize Tk.esc l (k + a) = b0 at *
  have M := Mv.refl g w
  cases hb : Ru.begB a0
  all_goals
    go_enter Tryz.func76, Tryz.ntmps76
    go_wp2_with (first | (go_at_call 17; (first | (with_reducible refine (C0.out _ S).mono ?_)); rintro e w1 ⟨rfl, S, m1⟩; have M := M.trans m1; clear m1) | (go_at_call 72; ((with_reducible refine (begins_any _ _).mono ?_); rintro e w1 ⟨rfl, rfl⟩)) | (go_at_call 38; (first | (with_reducible refine (C1.out _ S).mono ?_)); rintro e w1 ⟨rfl, S, m1⟩; have M := M.trans m1; clear m1))
    go_ret
    exact ⟨ret_bool (by simp), S, M⟩

set_option maxHeartbeats 400000 in
theorem names_any (x : Int) (a : Nat) (hx : x = (a : Int)) (hN : ∀ c ∈ l, 0 ≤ c) (hm : l.length ≤ 65536) (hk : k ≤ l.length) (ha : a ≤ 1) (S : Sc w g A cap l pl k) :
    Calls Tryz.prog 43 #[.pointer (some ⟨g, 0, none⟩), .int .i64 x] w (Stp g A cap l pl k (.bool (Tk.begs l (k + a))) w) := by
  subst hx
  have C0 : Hid (∀ w', Sc w' g A cap l pl k → Calls Tryz.prog 17 #[.pointer (some ⟨g, 0, none⟩), .int .i64 a] w' (Stp g A cap l pl k (.int .i32 (Tk.at' l (k + a))) w')) := Lib.hid fun w' h => peek_any _ a rfl hm hk (by omega) h
  have C1 : Hid (∀ w', Sc w' g A cap l pl k → Calls Tryz.prog 17 #[.pointer (some ⟨g, 0, none⟩), .int .i64 ((a : Int) + 1)] w' (Stp g A cap l pl k (.int .i32 (Tk.at' l (k + a + 1))) w')) := Lib.hid fun w' h => peek_any _ (a + 1) (by omega) hm hk (by omega) h
  have D0 : Hid (∀ w', Sc w' g A cap l pl k → Calls Tryz.prog 76 #[.pointer (some ⟨g, 0, none⟩), .int .i64 a] w' (Stp g A cap l pl k (.bool (Tk.may l (k + a))) w')) := Lib.hid fun w' h => begins_at _ a rfl hN hm hk (by omega) h
  have D1 : Hid (∀ w', Sc w' g A cap l pl k → Calls Tryz.prog 76 #[.pointer (some ⟨g, 0, none⟩), .int .i64 ((a : Int) + 1)] w' (Stp g A cap l pl k (.bool (Tk.may l (k + a + 1))) w')) := Lib.hid fun w' h => begins_at _ (a + 1) (by omega) hN hm hk (by omega) h
  rw [Tk.begs_code]
  clear hN
  generalize Tk.at' l (k + a) = a0 at *
  generalize Tk.at' l (k + a + 1) = a1 at *
  generalize Tk.may l (k + a) = b0 at *
  generalize Tk.may l (k + a + 1) = b1 at *
  have M := Mv.refl g w
  by_cases e0 : a0 = 45
  · subst e0
    by_cases e1 : a1 = 45
    · subst e1
      go_enter Tryz.func43, Tryz.ntmps43
      go_wp2_with (first | (go_at_call 17; (first | (with_reducible refine (C0.out _ S).mono ?_) | (with_reducible refine (C1.out _ S).mono ?_)); rintro e w1 ⟨rfl, S, m1⟩; have M := M.trans m1; clear m1) | (go_at_call 76; (first | (with_reducible refine (D0.out _ S).mono ?_) | (with_reducible refine (D1.out _ S).mono ?_)); rintro e w1 ⟨rfl, S, m1⟩; have M := M.trans m1; clear m1))
      go_ret
      exact ⟨ret_bool (by simp), S, M⟩
    · have f1 := Ru.eq_f e1
      go_enter Tryz.func43, Tryz.ntmps43
      go_wp2_with (first | (go_at_call 17; (first | (with_reducible refine (C0.out _ S).mono ?_) | (with_reducible refine (C1.out _ S).mono ?_)); rintro e w1 ⟨rfl, S, m1⟩; have M := M.trans m1; clear m1) | (go_at_call 76; (first | (with_reducible refine (D0.out _ S).mono ?_) | (with_reducible refine (D1.out _ S).mono ?_)); rintro e w1 ⟨rfl, S, m1⟩; have M := M.trans m1; clear m1))
      go_ret
      exact ⟨ret_bool (by simp [e1]), S, M⟩
  · have f0 := Ru.eq_f e0
    go_enter Tryz.func43, Tryz.ntmps43
    go_wp2_with (first | (go_at_call 17; (first | (with_reducible refine (C0.out _ S).mono ?_) | (with_reducible refine (C1.out _ S).mono ?_)); rintro e w1 ⟨rfl, S, m1⟩; have M := M.trans m1; clear m1) | (go_at_call 76; (first | (with_reducible refine (D0.out _ S).mono ?_) | (with_reducible refine (D1.out _ S).mono ?_)); rintro e w1 ⟨rfl, S, m1⟩; have M := M.trans m1; clear m1))
    go_ret
    exact ⟨ret_bool (by simp), S, M⟩

set_option maxHeartbeats 400000 in
theorem opens_any (hm : l.length ≤ 65536) (hk : k ≤ l.length) (S : Sc w g A cap l pl k) :
    Calls Tryz.prog 34 #[.pointer (some ⟨g, 0, none⟩)] w (Stp g A cap l pl k (.bool (Tk.opn l k)) w) := by
  have C0 : Hid (∀ w', Sc w' g A cap l pl k → Calls Tryz.prog 17 #[.pointer (some ⟨g, 0, none⟩), .int .i64 0] w' (Stp g A cap l pl k (.int .i32 (Tk.at' l k)) w')) := Lib.hid fun w' h => peek_any 0 0 rfl hm hk (by omega) h
  have C1 : Hid (∀ w', Sc w' g A cap l pl k → Calls Tryz.prog 17 #[.pointer (some ⟨g, 0, none⟩), .int .i64 1] w' (Stp g A cap l pl k (.int .i32 (Tk.at' l (k + 1))) w')) := Lib.hid fun w' h => peek_any 1 1 rfl hm hk (by omega) h
  unfold Tk.opn
  generalize Tk.at' l k = a0 at *
  generalize Tk.at' l (k + 1) = a1 at *
  have M := Mv.refl g w
  by_cases e0 : a0 = 47
  · subst e0
    by_cases e1 : a1 = 42
    · subst e1
      go_enter Tryz.func34, Tryz.ntmps34
      go_wp2_with (go_at_call 17; (first | (with_reducible refine (C0.out _ S).mono ?_) | (with_reducible refine (C1.out _ S).mono ?_)); rintro e w1 ⟨rfl, S, m1⟩; have M := M.trans m1; clear m1)
      go_ret
      exact ⟨rfl, S, M⟩
    · have f1 := Ru.eq_f e1
      go_enter Tryz.func34, Tryz.ntmps34
      go_wp2_with (go_at_call 17; (first | (with_reducible refine (C0.out _ S).mono ?_) | (with_reducible refine (C1.out _ S).mono ?_)); rintro e w1 ⟨rfl, S, m1⟩; have M := M.trans m1; clear m1)
      go_ret
      exact ⟨ret_bool (by simp [e1]), S, M⟩
  · have f0 := Ru.eq_f e0
    go_enter Tryz.func34, Tryz.ntmps34
    go_wp2_with (go_at_call 17; (first | (with_reducible refine (C0.out _ S).mono ?_) | (with_reducible refine (C1.out _ S).mono ?_)); rintro e w1 ⟨rfl, S, m1⟩; have M := M.trans m1; clear m1)
    go_ret
    exact ⟨ret_bool (by simp [e0]), S, M⟩
end
end Go.Proofs.YtgcmjkimiakibaaGreatDoor

/-
  Walks of the scanner's passComment and passGap.
-/
namespace Go.Proofs.YtgcmjkimiakibaaGreatDoor
open Go.RowKit

section
variable {w : World} {g cap k : Nat} {A : Option Addr} {l : List Int} {pl : ByteArray}

/-- in a comment that begins at k -/
def CmtC (g : Nat) (A : Option Addr) (cap : Nat) (l : List Int) (pl : ByteArray) (k : Nat) (w : World) (r : Nat) (wr : World) : Prop :=
  ∃ j, j ≤ l.length ∧ l.length - j ≤ r ∧ Hid (Tk.cmtE l (k + 2) = Tk.cmtE l j) ∧ Sc wr g A cap l pl j ∧ Mv g w wr

set_option maxHeartbeats 1000000 in
theorem passComment_any (hN : ∀ c ∈ l, 0 ≤ c) (hm : l.length ≤ 65536) (ho : Tk.opn l k = true) (S : Sc w g A cap l pl k) :
    Calls Tryz.prog 68 #[.pointer (some ⟨g, 0, none⟩)] w (Stp g A cap l pl (Tk.cmt l k) (.tuple #[]) w) := by
  have hk := Tk.opn_lt ho
  have HN := Lib.hid hN
  clear hN ho
  have P0 : Hid (∀ w', Sc w' g A cap l pl k → Calls Tryz.prog 71 #[.pointer (some ⟨g, 0, none⟩), .int .i64 2] w' (Stp g A cap l pl (k + 2) (.tuple #[]) w')) := Lib.hid fun w' h => by have := pass_any 2 2 rfl hm (by omega) (by omega) h; rwa [Nat.min_eq_left (by omega)] at this
  have M := Mv.refl g w
  go_enter Tryz.func68, Tryz.ntmps68
  go_wp2_with (go_at_call 71; (first | (with_reducible refine (P0.out _ S).mono ?_)); rintro e w1 ⟨rfl, S, m1⟩; have M := M.trans m1; clear m1)
  clear P0
  go_loopg [] l.length (fun r wr => CmtC g A cap l pl k w r wr)
  case atStart => exact ⟨k + 2, by omega, by omega, Lib.hid rfl, S, M⟩
  case round =>
    clear S M
    obtain ⟨j, hj, hr, HC, S, M⟩ := hrel
    have C0 : Hid (∀ w', Sc w' g A cap l pl j → Calls Tryz.prog 17 #[.pointer (some ⟨g, 0, none⟩), .int .i64 0] w' (Stp g A cap l pl j (.int .i32 (Tk.at' l j)) w')) := Lib.hid fun w' h => peek_any 0 0 rfl hm hj (by omega) h
    have C1 : Hid (∀ w', Sc w' g A cap l pl j → Calls Tryz.prog 17 #[.pointer (some ⟨g, 0, none⟩), .int .i64 1] w' (Stp g A cap l pl j (.int .i32 (Tk.at' l (j + 1))) w')) := Lib.hid fun w' h => peek_any 1 1 rfl hm hj (by omega) h
    have P2 : Hid (∀ w', Sc w' g A cap l pl j → Calls Tryz.prog 71 #[.pointer (some ⟨g, 0, none⟩), .int .i64 2] w' (Stp g A cap l pl (min (j + 2) l.length) (.tuple #[]) w')) := Lib.hid fun w' h => pass_any 2 2 rfl hm hj (by omega) h
    by_cases hlt : j < l.length
    · have h0 := Tk.at_neg HN.out hlt
      have f0 := Ru.ne_t (show ¬ Tk.at' l j = -1 by omega)
      have T0 : Hid (∀ w', Sc w' g A cap l pl j → Calls Tryz.prog 39 #[.pointer (some ⟨g, 0, none⟩)] w' (Stp g A cap l pl (j + 1) (.int .i32 (Tk.at' l j)) w')) := Lib.hid fun w' h => take_in hm hlt h
      by_cases e1 : Tk.at' l j = 42
      · by_cases e2 : Tk.at' l (j + 1) = 47
        · have HE : Hid (min (j + 2) l.length = Tk.cmt l k) := Lib.hid (by unfold Tk.cmt; rw [HC.out, Tk.cmtE_no (fun h => h.2 ⟨by rw [← Tk.at_in hlt]; exact e1, e2⟩)])
          rw [e1] at C0 f0
          rw [e2] at C1
          clear e1 e2 HC T0 h0
          go_wp2_with (first | (go_at_call 17; (first | (with_reducible refine (C0.out _ S).mono ?_) | (with_reducible refine (C1.out _ S).mono ?_)); rintro e w1 ⟨rfl, S, m1⟩; have M := M.trans m1; clear m1) | (go_at_call 71; (first | (with_reducible refine (P2.out _ S).mono ?_)); rintro e w1 ⟨rfl, S, m1⟩; have M := M.trans m1; clear m1))
          go_end0
          exact ⟨rfl, by rw [← HE.out]; exact S, M⟩
        · have HE : Hid (Tk.cmtE l (k + 2) = Tk.cmtE l (j + 1)) := Lib.hid (by rw [HC.out, Tk.cmtE_yes ⟨hlt, fun h => e2 h.2⟩])
          have f2 := Ru.ne_t e2
          rw [e1] at C0 f0
          clear e1 e2 HC P2 h0
          generalize Tk.at' l j = a0 at *
          generalize Tk.at' l (j + 1) = a1 at *
          go_wp2_with (first | (go_at_call 17; (first | (with_reducible refine (C0.out _ S).mono ?_) | (with_reducible refine (C1.out _ S).mono ?_)); rintro e w1 ⟨rfl, S, m1⟩; have M := M.trans m1; clear m1) | (go_at_call 39; (first | (with_reducible refine (T0.out _ S).mono ?_)); rintro e w1 ⟨rfl, S, m1⟩; have M := M.trans m1; clear m1))
          go_roundg (l.length - (j + 1))
          case measure => omega
          case rel => exact ⟨j + 1, by omega, by omega, HE, S, M⟩
      · have HE : Hid (Tk.cmtE l (k + 2) = Tk.cmtE l (j + 1)) := Lib.hid (by rw [HC.out, Tk.cmtE_yes ⟨hlt, fun h => e1 (by rw [Tk.at_in hlt]; exact h.1)⟩])
        have f1 := Ru.ne_t e1
        clear e1 HC P2 h0
        generalize Tk.at' l j = a0 at *
        generalize Tk.at' l (j + 1) = a1 at *
        go_wp2_with (first | (go_at_call 17; (first | (with_reducible refine (C0.out _ S).mono ?_) | (with_reducible refine (C1.out _ S).mono ?_)); rintro e w1 ⟨rfl, S, m1⟩; have M := M.trans m1; clear m1) | (go_at_call 39; (first | (with_reducible refine (T0.out _ S).mono ?_)); rintro e w1 ⟨rfl, S, m1⟩; have M := M.trans m1; clear m1))
        go_roundg (l.length - (j + 1))
        case measure => omega
        case rel => exact ⟨j + 1, by omega, by omega, HE, S, M⟩
    · have HE : Hid (min (j + 2) l.length = Tk.cmt l k) := Lib.hid (by unfold Tk.cmt; rw [HC.out, Tk.cmtE_no (fun h => hlt h.1)])
      have ha := Tk.at_out hlt
      rw [ha] at C0
      clear ha HC
      go_wp2_with (first | (go_at_call 17; (first | (with_reducible refine (C0.out _ S).mono ?_) | (with_reducible refine (C1.out _ S).mono ?_)); rintro e w1 ⟨rfl, S, m1⟩; have M := M.trans m1; clear m1) | (go_at_call 71; (first | (with_reducible refine (P2.out _ S).mono ?_)); rintro e w1 ⟨rfl, S, m1⟩; have M := M.trans m1; clear m1))
      go_end0
      exact ⟨rfl, by rw [← HE.out]; exact S, M⟩

/-- in a gap that begins at k -/
def GapC (g : Nat) (A : Option Addr) (cap : Nat) (l : List Int) (pl : ByteArray) (k : Nat) (w : World) (r : Nat) (v : Value) (wr : World) : Prop :=
  ∃ (j : Nat) (b : Bool), j ≤ l.length ∧ l.length - j ≤ r ∧ v = .bool b ∧ Hid (Tk.sp l k false = Tk.sp l j b) ∧ Sc wr g A cap l pl j ∧ Mv g w wr

set_option maxHeartbeats 1000000 in
theorem passGap_any (hN : ∀ c ∈ l, 0 ≤ c) (hm : l.length ≤ 65536) (hk : k ≤ l.length) (S : Sc w g A cap l pl k) :
    Calls Tryz.prog 35 #[.pointer (some ⟨g, 0, none⟩)] w (Stp g A cap l pl (Tk.sp l k false).1 (.bool (Tk.sp l k false).2) w) := by
  have HN := Lib.hid hN
  clear hN
  have M := Mv.refl g w
  go_enter Tryz.func35, Tryz.ntmps35
  go_wp2_with fail
  go_loopg [3] l.length (fun r v wr => GapC g A cap l pl k w r v wr)
  case atStart => exact ⟨k, false, hk, by omega, rfl, Lib.hid rfl, S, M⟩
  case round =>
    clear S M
    obtain ⟨j, b, hj, hr, rfl, HC, S, M⟩ := hrel
    have C0 : Hid (∀ w', Sc w' g A cap l pl j → Calls Tryz.prog 17 #[.pointer (some ⟨g, 0, none⟩), .int .i64 0] w' (Stp g A cap l pl j (.int .i32 (Tk.at' l j)) w')) := Lib.hid fun w' h => peek_any 0 0 rfl hm hj (by omega) h
    have O0 : Hid (∀ w', Sc w' g A cap l pl j → Calls Tryz.prog 34 #[.pointer (some ⟨g, 0, none⟩)] w' (Stp g A cap l pl j (.bool (Tk.opn l j)) w')) := Lib.hid fun w' h => opens_any hm hj h
    cases hw : Ru.whiB (Tk.at' l j)
    · cases ho : Tk.opn l j
      · have HE : Hid (Tk.sp l k false = (j, b)) := Lib.hid (by rw [HC.out, Tk.sp_no hw ho])
        rw [ho] at O0
        clear HC ho
        generalize Tk.at' l j = a0 at *
        go_wp2_with (first | (go_at_call 17; (first | (with_reducible refine (C0.out _ S).mono ?_)); rintro e w1 ⟨rfl, S, m1⟩; have M := M.trans m1; clear m1) | (go_at_call 33; ((with_reducible refine (white_any _ _).mono ?_); rintro e w1 ⟨rfl, rfl⟩)) | (go_at_call 34; (first | (with_reducible refine (O0.out _ S).mono ?_)); rintro e w1 ⟨rfl, S, m1⟩; have M := M.trans m1; clear m1))
        go_ret
        exact ⟨ret_bool (by rw [HE.out]), by rw [HE.out]; exact S, M⟩
      · have HE : Hid (Tk.sp l k false = Tk.sp l (Tk.cmt l j) b) := Lib.hid (by rw [HC.out, Tk.sp_opn hw ho])
        have hc := Tk.cmt_le ho
        have Q0 : Hid (∀ w', Sc w' g A cap l pl j → Calls Tryz.prog 68 #[.pointer (some ⟨g, 0, none⟩)] w' (Stp g A cap l pl (Tk.cmt l j) (.tuple #[]) w')) := Lib.hid fun w' h => passComment_any HN.out hm ho h
        rw [ho] at O0
        clear HC ho
        generalize Tk.at' l j = a0 at *
        generalize Tk.cmt l j = j2 at *
        go_wp2_with (first | (go_at_call 17; (first | (with_reducible refine (C0.out _ S).mono ?_)); rintro e w1 ⟨rfl, S, m1⟩; have M := M.trans m1; clear m1) | (go_at_call 33; ((with_reducible refine (white_any _ _).mono ?_); rintro e w1 ⟨rfl, rfl⟩)) | (go_at_call 34; (first | (with_reducible refine (O0.out _ S).mono ?_)); rintro e w1 ⟨rfl, S, m1⟩; have M := M.trans m1; clear m1) | (go_at_call 68; (first | (with_reducible refine (Q0.out _ S).mono ?_)); rintro e w1 ⟨rfl, S, m1⟩; have M := M.trans m1; clear m1))
        go_roundg (l.length - j2)
        case measure => omega
        case rel => exact ⟨j2, b, by omega, by omega, rfl, HE, S, M⟩
    · have HE : Hid (Tk.sp l k false = Tk.sp l (j + 1) true) := Lib.hid (by rw [HC.out, Tk.sp_white hw])
      have hlt := Tk.whi_lt hw
      have T0 : Hid (∀ w', Sc w' g A cap l pl j → Calls Tryz.prog 39 #[.pointer (some ⟨g, 0, none⟩)] w' (Stp g A cap l pl (j + 1) (.int .i32 (Tk.at' l j)) w')) := Lib.hid fun w' h => take_in hm hlt h
      clear HC
      generalize Tk.at' l j = a0 at *
      go_wp2_with (first | (go_at_call 17; (first | (with_reducible refine (C0.out _ S).mono ?_)); rintro e w1 ⟨rfl, S, m1⟩; have M := M.trans m1; clear m1) | (go_at_call 33; ((with_reducible refine (white_any _ _).mono ?_); rintro e w1 ⟨rfl, rfl⟩)) | (go_at_call 39; (first | (with_reducible refine (T0.out _ S).mono ?_)); rintro e w1 ⟨rfl, S, m1⟩; have M := M.trans m1; clear m1))
      go_roundg (l.length - (j + 1))
      case measure => omega
      case rel => exact ⟨j + 1, true, by omega, by omega, rfl, HE, S, M⟩
end
end Go.Proofs.YtgcmjkimiakibaaGreatDoor

/-
  The walk of the scanner's escape.
-/
namespace Go.Proofs.YtgcmjkimiakibaaGreatDoor
open Go.RowKit

section
variable {w : World} {g cap k : Nat} {A : Option Addr} {l : List Int} {pl : ByteArray}

theorem or16 {n h : Int} (n1 : 0 ≤ n) (n2 : n ≤ 16777215) (h1 : 0 ≤ h) (h2 : h ≤ 15) : bits .or .i32 (n * 16) h = n * 16 + h :=
  bits_join .i32 31 (by decide) wraps_i32 4 (n * 16) h (by omega) (by omega) (by omega) h1 (by omega) (by omega)
/-- at the head of escape's loop -/
def EscAt (g : Nat) (A : Option Addr) (cap : Nat) (l : List Int) (pl : ByteArray) (k : Nat) (w : World) (r : Nat) (v3 v4 : Value) (wr : World) : Prop :=
  ∃ (m j : Nat) (n : Int), m ≤ 6 ∧ 6 - m ≤ r ∧ v4 = .int .i64 m ∧ v3 = .int .i32 n ∧ j ≤ k + 1 + m ∧ k + 1 + m ≤ j ∧ j ≤ l.length ∧ 0 ≤ n ∧ n ≤ 16777215 ∧ Hid (Tk.hexR (6 - m) l j n = Tk.hexR 6 l (k + 1) 0) ∧ Hid (n < 16 ^ m) ∧ Sc wr g A cap l pl j ∧ Mv g w wr

set_option maxHeartbeats 4000000 in
theorem escape_any (hm : l.length ≤ 65536) (he : Tk.esc l k = true) (S : Sc w g A cap l pl k) :
    Calls Tryz.prog 70 #[.pointer (some ⟨g, 0, none⟩)] w (Stp g A cap l pl (Tk.meant l k).2 (.int .i32 (Tk.meant l k).1) w) := by
  have hk := (Tk.esc_lt he).1
  clear he
  have T0 : Hid (∀ w', Sc w' g A cap l pl k → Calls Tryz.prog 39 #[.pointer (some ⟨g, 0, none⟩)] w' (Stp g A cap l pl (k + 1) (.int .i32 (Tk.at' l k)) w')) := Lib.hid fun w' h => take_in hm (by omega) h
  have C0 : Hid (∀ w', Sc w' g A cap l pl (k + 1) → Calls Tryz.prog 17 #[.pointer (some ⟨g, 0, none⟩), .int .i64 0] w' (Stp g A cap l pl (k + 1) (.int .i32 (Tk.at' l (k + 1))) w')) := Lib.hid fun w' h => peek_any 0 0 rfl hm (by omega) (by omega) h
  have M := Mv.refl g w
  by_cases hh : 0 ≤ Ru.hexV (Tk.at' l (k + 1))
  · have HH0 := Lib.hid hh
    generalize Tk.at' l k = y at *
    generalize hy1 : Tk.at' l (k + 1) = y1 at *
    have HY1 := Lib.hid hy1
    clear hy1
    go_enter Tryz.func70, Tryz.ntmps70
    go_wp2_with (first | (go_at_call 17; (first | (with_reducible refine (C0.out _ S).mono ?_)); rintro e w1 ⟨rfl, S, m1⟩; have M := M.trans m1; clear m1) | (go_at_call 39; (first | (with_reducible refine (T0.out _ S).mono ?_)); rintro e w1 ⟨rfl, S, m1⟩; have M := M.trans m1; clear m1) | (go_at_call 92; ((with_reducible refine (hex_any _ _).mono ?_); rintro e w1 ⟨rfl, rfl⟩)) | (go_at_call 33; ((with_reducible refine (white_any _ _).mono ?_); rintro e w1 ⟨rfl, rfl⟩)) | (go_at_call 93; ((with_reducible refine (is_any _ _).mono ?_); rintro e w1 ⟨rfl, rfl⟩)))
    go_loopg [3, 4] 6 (fun r v3 v4 wr => EscAt g A cap l pl k w r v3 v4 wr)
    case atStart => exact ⟨0, k + 1, 0, by omega, by omega, by go_num, rfl, by omega, by omega, by omega, by omega, by omega, Lib.hid rfl, Lib.hid (by decide), S, M⟩
    case round =>
      clear S M C0 T0 hh
      obtain ⟨m, j, n, m1, hr, rfl, rfl, j1, j2, j3, n1, n2, HR, HN16, S, M⟩ := hrel
      have C0 : Hid (∀ w', Sc w' g A cap l pl j → Calls Tryz.prog 17 #[.pointer (some ⟨g, 0, none⟩), .int .i64 0] w' (Stp g A cap l pl j (.int .i32 (Tk.at' l j)) w')) := Lib.hid fun w' h => peek_any 0 0 rfl hm j3 (by omega) h
      by_cases hlt : m < 6
      · by_cases hh : 0 ≤ Ru.hexV (Tk.at' l j)
        · have hle := (Tk.hexV_le (Tk.at' l j)).2
          have hjl : j < l.length := Tk.at_lt (fun e => by rw [e, Tk.hexV_out] at hh; omega)
          have HX : Hid (Tk.hexR (6 - (m + 1)) l (j + 1) (n * 16 + Ru.hexV (Tk.at' l j)) = Tk.hexR 6 l (k + 1) 0) := Lib.hid (by
            have := Tk.hexR_yes (f := 6 - (m + 1)) (n := n) hh
            rw [← HR.out, show 6 - m = 6 - (m + 1) + 1 by omega, this])
          have hp5 := Tk.pow16 (m := m) (by omega)
          have hn3 : n ≤ 1048575 := by have := HN16.out; omega
          have HN' : Hid (n * 16 + Ru.hexV (Tk.at' l j) < 16 ^ (m + 1)) := Lib.hid (by have := HN16.out; rw [Int.pow_succ]; omega)
          clear HN16 HR hp5
          have T0 : Hid (∀ w', Sc w' g A cap l pl j → Calls Tryz.prog 39 #[.pointer (some ⟨g, 0, none⟩)] w' (Stp g A cap l pl (j + 1) (.int .i32 (Tk.at' l j)) w')) := Lib.hid fun w' h => take_in hm hjl h
          generalize Tk.at' l j = a at *
          generalize hhx : Ru.hexV a = h at *
          go_wp2_with (first | (go_at_call 17; (first | (with_reducible refine (C0.out _ S).mono ?_)); rintro e w1 ⟨rfl, S, m1⟩; have M := M.trans m1; clear m1) | (go_at_call 39; (first | (with_reducible refine (T0.out _ S).mono ?_)); rintro e w1 ⟨rfl, S, m1⟩; have M := M.trans m1; clear m1) | (go_at_call 92; ((with_reducible refine (hex_any _ _).mono ?_); rintro e w1 ⟨rfl, rfl⟩)) | (go_at_call 33; ((with_reducible refine (white_any _ _).mono ?_); rintro e w1 ⟨rfl, rfl⟩)) | (go_at_call 93; ((with_reducible refine (is_any _ _).mono ?_); rintro e w1 ⟨rfl, rfl⟩)))
          go_roundg (6 - (m + 1))
          case measure => omega
          case rel => exact ⟨m + 1, j + 1, n * 16 + h, by omega, by omega, by go_num, by rw [or16 n1 (by omega) (by omega) (by omega)], by omega, by omega, by omega, by omega, by omega, HX, HN', S, M⟩
        · have HE : Hid (Tk.hexR 6 l (k + 1) 0 = (n, j)) := Lib.hid (by rw [← HR.out, Tk.hexR_no hh])
          have hh' : Ru.hexV (Tk.at' l j) < 0 := by omega
          have m0 : m ≠ 0 := fun e => by
            have e2 : j = k + 1 := by omega
            rw [e2, HY1.out] at hh
            exact hh HH0.out
          clear hh
          have HM := Lib.hid (Tk.meant_some HE.out (by omega))
          have HK : Hid (Tk.meantK l j = if Ru.whiB (Tk.at' l j) = true then j + 1 else j) := Lib.hid rfl
          have HW : Hid (Ru.whiB (Tk.at' l j) = true → j < l.length) := Lib.hid Tk.whi_lt
          clear HE HR HN16 HH0
          have T1 : Hid (j < l.length → ∀ w', Sc w' g A cap l pl j → Calls Tryz.prog 39 #[.pointer (some ⟨g, 0, none⟩)] w' (Stp g A cap l pl (j + 1) (.int .i32 (Tk.at' l j)) w')) := Lib.hid fun hlt w' h => take_in hm hlt h
          generalize Tk.at' l j = a at *
          by_cases n0 : n = 0
          · subst n0
            have HV2 : Hid (Tk.meantN 0 = 65533) := Lib.hid rfl
            cases hw : Ru.whiB a
            · rw [hw] at HK
              go_wp2_with (first | (go_at_call 17; (first | (with_reducible refine (C0.out _ S).mono ?_)); rintro e w1 ⟨rfl, S, m1⟩; have M := M.trans m1; clear m1) | (go_at_call 39; (first | (with_reducible refine (T0.out _ S).mono ?_)); rintro e w1 ⟨rfl, S, m1⟩; have M := M.trans m1; clear m1) | (go_at_call 92; ((with_reducible refine (hex_any _ _).mono ?_); rintro e w1 ⟨rfl, rfl⟩)) | (go_at_call 33; ((with_reducible refine (white_any _ _).mono ?_); rintro e w1 ⟨rfl, rfl⟩)) | (go_at_call 93; ((with_reducible refine (is_any _ _).mono ?_); rintro e w1 ⟨rfl, rfl⟩)))
              go_ret
              exact ⟨ret_int (by rw [HM.out]; exact HV2.out.symm), by rw [HM.out, HK.out]; simpa using S, M⟩
            · rw [hw] at HK
              have T0 := Lib.hid (T1.out (HW.out hw))
              go_wp2_with (first | (go_at_call 17; (first | (with_reducible refine (C0.out _ S).mono ?_)); rintro e w1 ⟨rfl, S, m1⟩; have M := M.trans m1; clear m1) | (go_at_call 39; (first | (with_reducible refine (T0.out _ S).mono ?_)); rintro e w1 ⟨rfl, S, m1⟩; have M := M.trans m1; clear m1) | (go_at_call 92; ((with_reducible refine (hex_any _ _).mono ?_); rintro e w1 ⟨rfl, rfl⟩)) | (go_at_call 33; ((with_reducible refine (white_any _ _).mono ?_); rintro e w1 ⟨rfl, rfl⟩)) | (go_at_call 93; ((with_reducible refine (is_any _ _).mono ?_); rintro e w1 ⟨rfl, rfl⟩)))
              go_ret
              exact ⟨ret_int (by rw [HM.out]; exact HV2.out.symm), by rw [HM.out, HK.out]; simpa using S, M⟩
          · have en : ((n : Int) == 0) = false := Ru.eq_f n0
            cases hi : Ru.isB n
            · have HV2 : Hid (Tk.meantN n = 65533) := Lib.hid (by unfold Tk.meantN; rw [if_pos (Or.inr hi)])
              cases hw : Ru.whiB a
              · rw [hw] at HK
                go_wp2_with (first | (go_at_call 17; (first | (with_reducible refine (C0.out _ S).mono ?_)); rintro e w1 ⟨rfl, S, m1⟩; have M := M.trans m1; clear m1) | (go_at_call 39; (first | (with_reducible refine (T0.out _ S).mono ?_)); rintro e w1 ⟨rfl, S, m1⟩; have M := M.trans m1; clear m1) | (go_at_call 92; ((with_reducible refine (hex_any _ _).mono ?_); rintro e w1 ⟨rfl, rfl⟩)) | (go_at_call 33; ((with_reducible refine (white_any _ _).mono ?_); rintro e w1 ⟨rfl, rfl⟩)) | (go_at_call 93; ((with_reducible refine (is_any _ _).mono ?_); rintro e w1 ⟨rfl, rfl⟩)))
                go_ret
                exact ⟨ret_int (by rw [HM.out, HV2.out]), by rw [HM.out, HK.out]; simpa using S, M⟩
              · rw [hw] at HK
                have T0 := Lib.hid (T1.out (HW.out hw))
                go_wp2_with (first | (go_at_call 17; (first | (with_reducible refine (C0.out _ S).mono ?_)); rintro e w1 ⟨rfl, S, m1⟩; have M := M.trans m1; clear m1) | (go_at_call 39; (first | (with_reducible refine (T0.out _ S).mono ?_)); rintro e w1 ⟨rfl, S, m1⟩; have M := M.trans m1; clear m1) | (go_at_call 92; ((with_reducible refine (hex_any _ _).mono ?_); rintro e w1 ⟨rfl, rfl⟩)) | (go_at_call 33; ((with_reducible refine (white_any _ _).mono ?_); rintro e w1 ⟨rfl, rfl⟩)) | (go_at_call 93; ((with_reducible refine (is_any _ _).mono ?_); rintro e w1 ⟨rfl, rfl⟩)))
                go_ret
                exact ⟨ret_int (by rw [HM.out, HV2.out]), by rw [HM.out, HK.out]; simpa using S, M⟩
            · have HV2 : Hid (Tk.meantN n = n) := Lib.hid (by unfold Tk.meantN; rw [if_neg (by rw [hi]; simp [n0])])
              cases hw : Ru.whiB a
              · rw [hw] at HK
                go_wp2_with (first | (go_at_call 17; (first | (with_reducible refine (C0.out _ S).mono ?_)); rintro e w1 ⟨rfl, S, m1⟩; have M := M.trans m1; clear m1) | (go_at_call 39; (first | (with_reducible refine (T0.out _ S).mono ?_)); rintro e w1 ⟨rfl, S, m1⟩; have M := M.trans m1; clear m1) | (go_at_call 92; ((with_reducible refine (hex_any _ _).mono ?_); rintro e w1 ⟨rfl, rfl⟩)) | (go_at_call 33; ((with_reducible refine (white_any _ _).mono ?_); rintro e w1 ⟨rfl, rfl⟩)) | (go_at_call 93; ((with_reducible refine (is_any _ _).mono ?_); rintro e w1 ⟨rfl, rfl⟩)))
                go_ret
                exact ⟨ret_int (by rw [HM.out, HV2.out]), by rw [HM.out, HK.out]; simpa using S, M⟩
              · rw [hw] at HK
                have T0 := Lib.hid (T1.out (HW.out hw))
                go_wp2_with (first | (go_at_call 17; (first | (with_reducible refine (C0.out _ S).mono ?_)); rintro e w1 ⟨rfl, S, m1⟩; have M := M.trans m1; clear m1) | (go_at_call 39; (first | (with_reducible refine (T0.out _ S).mono ?_)); rintro e w1 ⟨rfl, S, m1⟩; have M := M.trans m1; clear m1) | (go_at_call 92; ((with_reducible refine (hex_any _ _).mono ?_); rintro e w1 ⟨rfl, rfl⟩)) | (go_at_call 33; ((with_reducible refine (white_any _ _).mono ?_); rintro e w1 ⟨rfl, rfl⟩)) | (go_at_call 93; ((with_reducible refine (is_any _ _).mono ?_); rintro e w1 ⟨rfl, rfl⟩)))
                go_ret
                exact ⟨ret_int (by rw [HM.out, HV2.out]), by rw [HM.out, HK.out]; simpa using S, M⟩
      · have HE : Hid (Tk.hexR 6 l (k + 1) 0 = (n, j)) := Lib.hid (by rw [← HR.out, show 6 - m = 0 by omega]; rfl)
        have HM := Lib.hid (Tk.meant_some HE.out (by omega))
        have HK : Hid (Tk.meantK l j = if Ru.whiB (Tk.at' l j) = true then j + 1 else j) := Lib.hid rfl
        have HW : Hid (Ru.whiB (Tk.at' l j) = true → j < l.length) := Lib.hid Tk.whi_lt
        clear HE HR HN16 HH0
        have T1 : Hid (j < l.length → ∀ w', Sc w' g A cap l pl j → Calls Tryz.prog 39 #[.pointer (some ⟨g, 0, none⟩)] w' (Stp g A cap l pl (j + 1) (.int .i32 (Tk.at' l j)) w')) := Lib.hid fun hlt w' h => take_in hm hlt h
        generalize Tk.at' l j = a at *
        by_cases n0 : n = 0
        · subst n0
          have HV2 : Hid (Tk.meantN 0 = 65533) := Lib.hid rfl
          cases hw : Ru.whiB a
          · rw [hw] at HK
            go_wp2_with (first | (go_at_call 17; (first | (with_reducible refine (C0.out _ S).mono ?_)); rintro e w1 ⟨rfl, S, m1⟩; have M := M.trans m1; clear m1) | (go_at_call 39; (first | (with_reducible refine (T0.out _ S).mono ?_)); rintro e w1 ⟨rfl, S, m1⟩; have M := M.trans m1; clear m1) | (go_at_call 92; ((with_reducible refine (hex_any _ _).mono ?_); rintro e w1 ⟨rfl, rfl⟩)) | (go_at_call 33; ((with_reducible refine (white_any _ _).mono ?_); rintro e w1 ⟨rfl, rfl⟩)) | (go_at_call 93; ((with_reducible refine (is_any _ _).mono ?_); rintro e w1 ⟨rfl, rfl⟩)))
            go_ret
            exact ⟨ret_int (by rw [HM.out]; exact HV2.out.symm), by rw [HM.out, HK.out]; simpa using S, M⟩
          · rw [hw] at HK
            have T0 := Lib.hid (T1.out (HW.out hw))
            go_wp2_with (first | (go_at_call 17; (first | (with_reducible refine (C0.out _ S).mono ?_)); rintro e w1 ⟨rfl, S, m1⟩; have M := M.trans m1; clear m1) | (go_at_call 39; (first | (with_reducible refine (T0.out _ S).mono ?_)); rintro e w1 ⟨rfl, S, m1⟩; have M := M.trans m1; clear m1) | (go_at_call 92; ((with_reducible refine (hex_any _ _).mono ?_); rintro e w1 ⟨rfl, rfl⟩)) | (go_at_call 33; ((with_reducible refine (white_any _ _).mono ?_); rintro e w1 ⟨rfl, rfl⟩)) | (go_at_call 93; ((with_reducible refine (is_any _ _).mono ?_); rintro e w1 ⟨rfl, rfl⟩)))
            go_ret
            exact ⟨ret_int (by rw [HM.out]; exact HV2.out.symm), by rw [HM.out, HK.out]; simpa using S, M⟩
        · have en : ((n : Int) == 0) = false := Ru.eq_f n0
          cases hi : Ru.isB n
          · have HV2 : Hid (Tk.meantN n = 65533) := Lib.hid (by unfold Tk.meantN; rw [if_pos (Or.inr hi)])
            cases hw : Ru.whiB a
            · rw [hw] at HK
              go_wp2_with (first | (go_at_call 17; (first | (with_reducible refine (C0.out _ S).mono ?_)); rintro e w1 ⟨rfl, S, m1⟩; have M := M.trans m1; clear m1) | (go_at_call 39; (first | (with_reducible refine (T0.out _ S).mono ?_)); rintro e w1 ⟨rfl, S, m1⟩; have M := M.trans m1; clear m1) | (go_at_call 92; ((with_reducible refine (hex_any _ _).mono ?_); rintro e w1 ⟨rfl, rfl⟩)) | (go_at_call 33; ((with_reducible refine (white_any _ _).mono ?_); rintro e w1 ⟨rfl, rfl⟩)) | (go_at_call 93; ((with_reducible refine (is_any _ _).mono ?_); rintro e w1 ⟨rfl, rfl⟩)))
              go_ret
              exact ⟨ret_int (by rw [HM.out, HV2.out]), by rw [HM.out, HK.out]; simpa using S, M⟩
            · rw [hw] at HK
              have T0 := Lib.hid (T1.out (HW.out hw))
              go_wp2_with (first | (go_at_call 17; (first | (with_reducible refine (C0.out _ S).mono ?_)); rintro e w1 ⟨rfl, S, m1⟩; have M := M.trans m1; clear m1) | (go_at_call 39; (first | (with_reducible refine (T0.out _ S).mono ?_)); rintro e w1 ⟨rfl, S, m1⟩; have M := M.trans m1; clear m1) | (go_at_call 92; ((with_reducible refine (hex_any _ _).mono ?_); rintro e w1 ⟨rfl, rfl⟩)) | (go_at_call 33; ((with_reducible refine (white_any _ _).mono ?_); rintro e w1 ⟨rfl, rfl⟩)) | (go_at_call 93; ((with_reducible refine (is_any _ _).mono ?_); rintro e w1 ⟨rfl, rfl⟩)))
              go_ret
              exact ⟨ret_int (by rw [HM.out, HV2.out]), by rw [HM.out, HK.out]; simpa using S, M⟩
          · have HV2 : Hid (Tk.meantN n = n) := Lib.hid (by unfold Tk.meantN; rw [if_neg (by rw [hi]; simp [n0])])
            cases hw : Ru.whiB a
            · rw [hw] at HK
              go_wp2_with (first | (go_at_call 17; (first | (with_reducible refine (C0.out _ S).mono ?_)); rintro e w1 ⟨rfl, S, m1⟩; have M := M.trans m1; clear m1) | (go_at_call 39; (first | (with_reducible refine (T0.out _ S).mono ?_)); rintro e w1 ⟨rfl, S, m1⟩; have M := M.trans m1; clear m1) | (go_at_call 92; ((with_reducible refine (hex_any _ _).mono ?_); rintro e w1 ⟨rfl, rfl⟩)) | (go_at_call 33; ((with_reducible refine (white_any _ _).mono ?_); rintro e w1 ⟨rfl, rfl⟩)) | (go_at_call 93; ((with_reducible refine (is_any _ _).mono ?_); rintro e w1 ⟨rfl, rfl⟩)))
              go_ret
              exact ⟨ret_int (by rw [HM.out, HV2.out]), by rw [HM.out, HK.out]; simpa using S, M⟩
            · rw [hw] at HK
              have T0 := Lib.hid (T1.out (HW.out hw))
              go_wp2_with (first | (go_at_call 17; (first | (with_reducible refine (C0.out _ S).mono ?_)); rintro e w1 ⟨rfl, S, m1⟩; have M := M.trans m1; clear m1) | (go_at_call 39; (first | (with_reducible refine (T0.out _ S).mono ?_)); rintro e w1 ⟨rfl, S, m1⟩; have M := M.trans m1; clear m1) | (go_at_call 92; ((with_reducible refine (hex_any _ _).mono ?_); rintro e w1 ⟨rfl, rfl⟩)) | (go_at_call 33; ((with_reducible refine (white_any _ _).mono ?_); rintro e w1 ⟨rfl, rfl⟩)) | (go_at_call 93; ((with_reducible refine (is_any _ _).mono ?_); rintro e w1 ⟨rfl, rfl⟩)))
              go_ret
              exact ⟨ret_int (by rw [HM.out, HV2.out]), by rw [HM.out, HK.out]; simpa using S, M⟩
  · have hh' : Ru.hexV (Tk.at' l (k + 1)) < 0 := by omega
    have HM : Hid (Tk.meant l k = (Tk.at' l (k + 1), k + 2)) := Lib.hid (by
      rw [Tk.at_in hk]
      exact Tk.meant_none (n := 0) (Tk.hexR_no (by rw [show k + 1 = k + 1 from rfl]; omega)))
    have T1 : Hid (∀ w', Sc w' g A cap l pl (k + 1) → Calls Tryz.prog 39 #[.pointer (some ⟨g, 0, none⟩)] w' (Stp g A cap l pl (k + 2) (.int .i32 (Tk.at' l (k + 1))) w')) := Lib.hid fun w' h => take_in hm hk h
    clear hh
    generalize Tk.at' l k = y at *
    generalize Tk.at' l (k + 1) = y1 at *
    go_enter Tryz.func70, Tryz.ntmps70
    go_wp2_with (first | (go_at_call 17; (first | (with_reducible refine (C0.out _ S).mono ?_)); rintro e w1 ⟨rfl, S, m1⟩; have M := M.trans m1; clear m1) | (go_at_call 39; (first | (with_reducible refine (T0.out _ S).mono ?_) | (with_reducible refine (T1.out _ S).mono ?_)); rintro e w1 ⟨rfl, S, m1⟩; have M := M.trans m1; clear m1) | (go_at_call 92; ((with_reducible refine (hex_any _ _).mono ?_); rintro e w1 ⟨rfl, rfl⟩)) | (go_at_call 33; ((with_reducible refine (white_any _ _).mono ?_); rintro e w1 ⟨rfl, rfl⟩)) | (go_at_call 93; ((with_reducible refine (is_any _ _).mono ?_); rintro e w1 ⟨rfl, rfl⟩)))
    go_ret
    exact ⟨ret_int (by rw [HM.out]), by rw [HM.out]; exact S, M⟩
end
end Go.Proofs.YtgcmjkimiakibaaGreatDoor

/-
  The walk of Write.
-/
namespace Go.Proofs.YtgcmjkimiakibaaGreatDoor
open Go.RowKit

theorem write_next {w wr w3 : World} {v v' : Value} {l : List Int} {k : Nat} {x : Int} (hk : l.take (k + 1) = l.take k ++ [x])
    (hown : wr.ownsRow w.heap.size 5 1 v (Ru.wr (l.take k)).length (nums .u8 (Ru.wr (l.take k)))) (hbel : Below w.heap.size w wr)
    (hown3 : w3.ownsRow w.heap.size 5 1 v' ((Ru.wr (l.take k)).length + (Lib.runeCells x).length) (nums .u8 (Ru.wr (l.take k)) ++ Lib.runeCells x)) (hgrow : ∃ o, (wr.alloc o).grownBy w3 v.ownBlock) :
    w3.ownsRow w.heap.size 5 1 v' (Ru.wr (l.take (k + 1))).length (nums .u8 (Ru.wr (l.take (k + 1)))) ∧ Below w.heap.size w w3 := by
  obtain ⟨o, hgrow⟩ := hgrow
  refine ⟨?_, ?_⟩
  · rw [hk, Ru.wr_snoc, nums_app, List.length_append, ← cells_enc]
    rw [cells_enc] at hown3 ⊢
    rwa [nums_len] at hown3
  · have hs := hbel.size
    exact (hbel.alloc (by omega) o).grown hgrow (by simp; omega) (fun j hj => (hown.lt j hj).1)

set_option maxHeartbeats 1000000 in
set_option maxRecDepth 100000 in
theorem write_any (l : List Int) (A : Option Addr) (cap : Nat) (w : World) (hm : l.length ≤ 65536) (hcap : l.length ≤ cap) (hr : ∀ c ∈ l, -2147483648 ≤ c ∧ c ≤ 2147483647) (hA : Bs w w.heap.size .i32 A l) :
    Calls Tryz.prog 77 #[.slice A l.length cap] w (Made .u8 5 (Ru.wr l) w) := by
  obtain ⟨i0, hi, hz0, hz1, hz2⟩ := info_parts Tryz.info5
  have CA : Hid (∀ (v : Value) (n : Nat) (xs : List Value) (r : Int) (wq : World), -2147483648 ≤ r → r ≤ 2147483647 → wq.ownsRow w.heap.size 5 1 v n xs → n + 4 ≤ 140737488355328 → w.heap.size ≤ wq.heap.size →
      Calls Tryz.prog 99 #[v, .int .i32 r] wq fun e w' => ∃ v', e = .returned v' ∧ w'.ownsRow w.heap.size 5 1 v' (n + (Lib.runeCells r).length) (xs ++ Lib.runeCells r) ∧ ∃ o, (wq.alloc o).grownBy w' v.ownBlock) :=
    Lib.hid fun v n xs r wq h1 h2 h3 h4 h5 => Tryz.utf8_AppendRune_plain w.heap.size v n xs r h1 h2 wq h3 h4 h5
  have HA := Lib.hid hA
  have HR := Lib.hid hr
  clear hA hr
  by_cases h0 : 0 < l.length
  · obtain ⟨b, off, rfl, hb, hp⟩ := HA.out h0
    have HP := Lib.hid hp
    clear hp HA
    go_enter Tryz.func77, Tryz.ntmps77
    go_wp2_with (at_make; refine wpList_make_own _ rfl _ _ 28 rfl w.heap.size 5 i0 (.int .u8 0) 1 Tryz.underlying28 hi hz0 hz1 .i64 .i64 _ l.length rfl rfl rfl (by rw [hz2]; omega) (by unfold maxLen; omega) (Nat.le_refl _) ?_; intro w1 hown1 hgrow1; have HB1 := Lib.hid ((Below.refl w.heap.size w).grown hgrow1 (Nat.le_refl _) (by simp)); have HO1 := Lib.hid hown1; clear hown1 hgrow1)
    go_loopw [3, 11] (fun v3 v11 wr => WriteAt w l v3 v11 wr) (fun _ v11 _ => l.length - (RowKit.intOf v11).toNat)
    case atStart => exact ⟨0, Nat.zero_le _, rfl, HO1.out, HB1.out⟩
    case round =>
      obtain ⟨k, hk, rfl, hown, hbel⟩ := hrel
      have HO := Lib.hid hown
      have HB := Lib.hid hbel
      clear hown hbel HO1 HB1
      by_cases hlt : k < l.length
      · have hcell := (HB.out.cell (p := ⟨b, off + k, none⟩) hb).trans (HP.out k hlt)
        have hr := HR.out _ (List.getElem_mem hlt)
        rw [← Ru.g_eq hlt] at hr
        obtain ⟨r1, r2⟩ := hr
        have HN := Lib.hid (Ru.take_g hlt)
        have hc4 : (Ru.wr (l.take k)).length + 4 ≤ 140737488355328 := by have := Ru.wr_len (l.take k); have := List.length_take_le k l; omega
        generalize Ru.g l k = x at *
        go_wp2_with (go_at_call 99; ((with_reducible refine (CA.out _ _ _ _ _ r1 r2 HO.out hc4 HB.out.size).mono ?_); rintro e w3 ⟨v', rfl, hown3, hgrow⟩; have HO3 := Lib.hid (write_next HN.out HO.out HB.out hown3 hgrow); clear hown3 hgrow))
        go_roundw
        case rel => exact ⟨k + 1, by omega, by go_num, HO3.out.1, HO3.out.2⟩
        case measure => simp [RowKit.intOf]; omega
      · obtain rfl : k = l.length := by omega
        have hd : Hid (l.take l.length = l) := Lib.hid (List.take_length)
        clear HP
        go_wp2_with fail
        go_ret
        exact ⟨_, rfl, by have := HO.out; rw [hd.out] at this; exact this, HB.out⟩
  · have hl : l = [] := List.eq_nil_of_length_eq_zero (by omega)
    subst hl
    go_enter Tryz.func77, Tryz.ntmps77
    go_wp2_with (at_make; refine wpList_make_own _ rfl _ _ 28 rfl w.heap.size 5 i0 (.int .u8 0) 1 Tryz.underlying28 hi hz0 hz1 .i64 .i64 _ 0 rfl rfl rfl (by rw [hz2]; omega) (by unfold maxLen; omega) (Nat.le_refl _) ?_; intro w1 hown1 hgrow1; have HB1 := Lib.hid ((Below.refl w.heap.size w).grown hgrow1 (Nat.le_refl _) (by simp)); have HO1 := Lib.hid hown1; clear hown1 hgrow1)
    go_loopw [3, 11] (fun v3 v11 wr => v11 = .int .i64 0 ∧ wr.ownsRow w.heap.size 5 1 v3 0 [] ∧ Below w.heap.size w wr) (fun _ _ _ => 0)
    case atStart => exact ⟨rfl, HO1.out, HB1.out⟩
    case round =>
      obtain ⟨rfl, hown, hbel⟩ := hrel
      have HO := Lib.hid hown
      have HB := Lib.hid hbel
      clear hown hbel
      go_wp2_with fail
      go_ret
      exact ⟨_, rfl, HO.out, HB.out⟩
end Go.Proofs.YtgcmjkimiakibaaGreatDoor
