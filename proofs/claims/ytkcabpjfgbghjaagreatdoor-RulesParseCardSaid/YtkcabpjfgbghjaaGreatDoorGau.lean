/-
  Walks of the scanner's tests: take, escapes, begins, names, opensComment.
-/
import Derived.Test.YtkcabpjfgbghjaaGreatDoorGat
import Derived.Test.YtkcabpjfgbghjaaGreatDoorGac
import Derived.Test.YtkcabpjfgbghjaaGreatDoorGar
import Derived.Deep.LoopGhost
import Derived.Test.YtkcabpjfgbghjaaGreatDoorGae
import Derived.ScopeJumps
set_option maxHeartbeats 16000000
set_option maxRecDepth 100000
namespace Go.Proofs.YtkcabpjfgbghjaaGreatDoor
open Go.RowKit
section
variable {w : World} {g cap k : Nat} {A : Option Addr} {l : List Int} {pl : ByteArray}
theorem take_any (hm : l.length <= 65536) (hk : k <= l.length) (S : Sc w g A cap l pl k) :
 Calls Tryz.prog 92 #[.pointer (some ⟨g, 0, none⟩)] w (Stp g A cap l pl (min (k + 1) l.length) (.int .i32 (Tk.at' l k)) w) := by
 have C0 : Hid (∀ w', Sc w' g A cap l pl k -> Calls Tryz.prog 50 #[.pointer (some ⟨g, 0, none⟩), .int .i64 0] w' (Stp g A cap l pl k (.int .i32 (Tk.at' l k)) w')) := Lib.hid fun w' h => peek_any 0 0 rfl hm hk (by omega) h
 have C1 : Hid (∀ w', Sc w' g A cap l pl k -> Calls Tryz.prog 156 #[.pointer (some ⟨g, 0, none⟩), .int .i64 1] w' (Stp g A cap l pl (min (k + 1) l.length) (.tuple #[]) w')) := Lib.hid fun w' h => pass_any 1 1 rfl hm hk (by omega) h
 generalize Tk.at' l k = y at *
 have M := Mv.refl g w
 go_enter Tryz.func92, Tryz.ntmps92
 go_wp2_with (first | (go_at_call 50; (first | (with_reducible refine (C0.out _ S).mono ?_)); rintro e w1 ⟨rfl, S, m1⟩; have M := M.trans m1; clear m1) | (go_at_call 156; (first | (with_reducible refine (C1.out _ S).mono ?_)); rintro e w1 ⟨rfl, S, m1⟩; have M := M.trans m1; clear m1))
 go_ret
 exact ⟨rfl, S, M⟩
theorem take_in (hm : l.length <= 65536) (hk : k < l.length) (S : Sc w g A cap l pl k) :
 Calls Tryz.prog 92 #[.pointer (some ⟨g, 0, none⟩)] w (Stp g A cap l pl (k + 1) (.int .i32 (Tk.at' l k)) w) := by
 have := take_any hm (by omega) S
 rwa [Nat.min_eq_left (by omega)] at this
theorem escapes_any (x : Int) (a : Nat) (hx : x = (a : Int)) (hN : ∀ c ∈ l, 0 <= c) (hm : l.length <= 65536) (hk : k <= l.length) (ha : a <= 2) (S : Sc w g A cap l pl k) :
 Calls Tryz.prog 91 #[.pointer (some ⟨g, 0, none⟩), .int .i64 x] w (Stp g A cap l pl k (.bool (Tk.esc l (k + a))) w) := by
 subst hx
 have C0 : Hid (∀ w', Sc w' g A cap l pl k -> Calls Tryz.prog 50 #[.pointer (some ⟨g, 0, none⟩), .int .i64 a] w' (Stp g A cap l pl k (.int .i32 (Tk.at' l (k + a))) w')) := Lib.hid fun w' h => peek_any _ a rfl hm hk (by omega) h
 have C1 : Hid (∀ w', Sc w' g A cap l pl k -> Calls Tryz.prog 50 #[.pointer (some ⟨g, 0, none⟩), .int .i64 ((a : Int) + 1)] w' (Stp g A cap l pl k (.int .i32 (Tk.at' l (k + a + 1))) w')) := Lib.hid fun w' h => peek_any _ (a + 1) (by omega) hm hk (by omega) h
 rw [Tk.esc_code hN]
 clear hN
 generalize Tk.at' l (k + a) = a0 at *
 generalize Tk.at' l (k + a + 1) = a1 at *
 have M := Mv.refl g w
 by_cases e0 : a0 = 92
 ·subst e0
  by_cases e1 : a1 = 10
  ·subst e1
   go_enter Tryz.func91, Tryz.ntmps91
   go_wp2_with (go_at_call 50; (first | (with_reducible refine (C0.out _ S).mono ?_) | (with_reducible refine (C1.out _ S).mono ?_)); rintro e w1 ⟨rfl, S, m1⟩; have M := M.trans m1; clear m1)
   go_ret
   exact ⟨rfl, S, M⟩
  ·have f1 := Ru.ne_t e1
   by_cases e2 : a1 = -1
   ·subst e2
    go_enter Tryz.func91, Tryz.ntmps91
    go_wp2_with (go_at_call 50; (first | (with_reducible refine (C0.out _ S).mono ?_) | (with_reducible refine (C1.out _ S).mono ?_)); rintro e w1 ⟨rfl, S, m1⟩; have M := M.trans m1; clear m1)
    go_ret
    exact ⟨rfl, S, M⟩
   ·have f2 := Ru.ne_t e2
    go_enter Tryz.func91, Tryz.ntmps91
    go_wp2_with (go_at_call 50; (first | (with_reducible refine (C0.out _ S).mono ?_) | (with_reducible refine (C1.out _ S).mono ?_)); rintro e w1 ⟨rfl, S, m1⟩; have M := M.trans m1; clear m1)
    go_ret
    exact ⟨ret_bool (by simp [e1, e2]), S, M⟩
 ·have f0 := Ru.ne_t e0
  go_enter Tryz.func91, Tryz.ntmps91
  go_wp2_with (go_at_call 50; (first | (with_reducible refine (C0.out _ S).mono ?_) | (with_reducible refine (C1.out _ S).mono ?_)); rintro e w1 ⟨rfl, S, m1⟩; have M := M.trans m1; clear m1)
  go_ret
  exact ⟨ret_bool (by simp [e0]), S, M⟩
theorem begins_at (x : Int) (a : Nat) (hx : x = (a : Int)) (hN : ∀ c ∈ l, 0 <= c) (hm : l.length <= 65536) (hk : k <= l.length) (ha : a <= 2) (S : Sc w g A cap l pl k) :
 Calls Tryz.prog 161 #[.pointer (some ⟨g, 0, none⟩), .int .i64 x] w (Stp g A cap l pl k (.bool (Tk.may l (k + a))) w) := by
 subst hx
 have C0 : Hid (∀ w', Sc w' g A cap l pl k -> Calls Tryz.prog 50 #[.pointer (some ⟨g, 0, none⟩), .int .i64 a] w' (Stp g A cap l pl k (.int .i32 (Tk.at' l (k + a))) w')) := Lib.hid fun w' h => peek_any _ a rfl hm hk (by omega) h
 have C1 : Hid (∀ w', Sc w' g A cap l pl k -> Calls Tryz.prog 91 #[.pointer (some ⟨g, 0, none⟩), .int .i64 a] w' (Stp g A cap l pl k (.bool (Tk.esc l (k + a))) w')) := Lib.hid fun w' h => escapes_any _ a rfl hN hm hk ha h
 unfold Tk.may
 clear hN
 generalize Tk.at' l (k + a) = a0 at *
 generalize Tk.esc l (k + a) = b0 at *
 have M := Mv.refl g w
 cases hb : Ru.begB a0
 all_goals
  go_enter Tryz.func161, Tryz.ntmps161
  go_wp2_with (first | (go_at_call 50; (first | (with_reducible refine (C0.out _ S).mono ?_)); rintro e w1 ⟨rfl, S, m1⟩; have M := M.trans m1; clear m1) | (go_at_call 157; ((with_reducible refine (begins_any _ _).mono ?_); rintro e w1 ⟨rfl, rfl⟩)) | (go_at_call 91; (first | (with_reducible refine (C1.out _ S).mono ?_)); rintro e w1 ⟨rfl, S, m1⟩; have M := M.trans m1; clear m1))
  go_ret
  exact ⟨ret_bool (by simp), S, M⟩
theorem names_any (x : Int) (a : Nat) (hx : x = (a : Int)) (hN : ∀ c ∈ l, 0 <= c) (hm : l.length <= 65536) (hk : k <= l.length) (ha : a <= 1) (S : Sc w g A cap l pl k) :
 Calls Tryz.prog 96 #[.pointer (some ⟨g, 0, none⟩), .int .i64 x] w (Stp g A cap l pl k (.bool (Tk.begs l (k + a))) w) := by
 subst hx
 have C0 : Hid (∀ w', Sc w' g A cap l pl k -> Calls Tryz.prog 50 #[.pointer (some ⟨g, 0, none⟩), .int .i64 a] w' (Stp g A cap l pl k (.int .i32 (Tk.at' l (k + a))) w')) := Lib.hid fun w' h => peek_any _ a rfl hm hk (by omega) h
 have C1 : Hid (∀ w', Sc w' g A cap l pl k -> Calls Tryz.prog 50 #[.pointer (some ⟨g, 0, none⟩), .int .i64 ((a : Int) + 1)] w' (Stp g A cap l pl k (.int .i32 (Tk.at' l (k + a + 1))) w')) := Lib.hid fun w' h => peek_any _ (a + 1) (by omega) hm hk (by omega) h
 have D0 : Hid (∀ w', Sc w' g A cap l pl k -> Calls Tryz.prog 161 #[.pointer (some ⟨g, 0, none⟩), .int .i64 a] w' (Stp g A cap l pl k (.bool (Tk.may l (k + a))) w')) := Lib.hid fun w' h => begins_at _ a rfl hN hm hk (by omega) h
 have D1 : Hid (∀ w', Sc w' g A cap l pl k -> Calls Tryz.prog 161 #[.pointer (some ⟨g, 0, none⟩), .int .i64 ((a : Int) + 1)] w' (Stp g A cap l pl k (.bool (Tk.may l (k + a + 1))) w')) := Lib.hid fun w' h => begins_at _ (a + 1) (by omega) hN hm hk (by omega) h
 rw [Tk.begs_code]
 clear hN
 generalize Tk.at' l (k + a) = a0 at *
 generalize Tk.at' l (k + a + 1) = a1 at *
 generalize Tk.may l (k + a) = b0 at *
 generalize Tk.may l (k + a + 1) = b1 at *
 have M := Mv.refl g w
 by_cases e0 : a0 = 45
 ·subst e0
  by_cases e1 : a1 = 45
  ·subst e1
   go_enter Tryz.func96, Tryz.ntmps96
   go_wp2_with (first | (go_at_call 50; (first | (with_reducible refine (C0.out _ S).mono ?_) | (with_reducible refine (C1.out _ S).mono ?_)); rintro e w1 ⟨rfl, S, m1⟩; have M := M.trans m1; clear m1) | (go_at_call 161; (first | (with_reducible refine (D0.out _ S).mono ?_) | (with_reducible refine (D1.out _ S).mono ?_)); rintro e w1 ⟨rfl, S, m1⟩; have M := M.trans m1; clear m1))
   go_ret
   exact ⟨ret_bool (by simp), S, M⟩
  ·have f1 := Ru.eq_f e1
   go_enter Tryz.func96, Tryz.ntmps96
   go_wp2_with (first | (go_at_call 50; (first | (with_reducible refine (C0.out _ S).mono ?_) | (with_reducible refine (C1.out _ S).mono ?_)); rintro e w1 ⟨rfl, S, m1⟩; have M := M.trans m1; clear m1) | (go_at_call 161; (first | (with_reducible refine (D0.out _ S).mono ?_) | (with_reducible refine (D1.out _ S).mono ?_)); rintro e w1 ⟨rfl, S, m1⟩; have M := M.trans m1; clear m1))
   go_ret
   exact ⟨ret_bool (by simp [e1]), S, M⟩
 ·have f0 := Ru.eq_f e0
  go_enter Tryz.func96, Tryz.ntmps96
  go_wp2_with (first | (go_at_call 50; (first | (with_reducible refine (C0.out _ S).mono ?_) | (with_reducible refine (C1.out _ S).mono ?_)); rintro e w1 ⟨rfl, S, m1⟩; have M := M.trans m1; clear m1) | (go_at_call 161; (first | (with_reducible refine (D0.out _ S).mono ?_) | (with_reducible refine (D1.out _ S).mono ?_)); rintro e w1 ⟨rfl, S, m1⟩; have M := M.trans m1; clear m1))
  go_ret
  exact ⟨ret_bool (by simp), S, M⟩
theorem opens_any (hm : l.length <= 65536) (hk : k <= l.length) (S : Sc w g A cap l pl k) :
 Calls Tryz.prog 87 #[.pointer (some ⟨g, 0, none⟩)] w (Stp g A cap l pl k (.bool (Tk.opn l k)) w) := by
 have C0 : Hid (∀ w', Sc w' g A cap l pl k -> Calls Tryz.prog 50 #[.pointer (some ⟨g, 0, none⟩), .int .i64 0] w' (Stp g A cap l pl k (.int .i32 (Tk.at' l k)) w')) := Lib.hid fun w' h => peek_any 0 0 rfl hm hk (by omega) h
 have C1 : Hid (∀ w', Sc w' g A cap l pl k -> Calls Tryz.prog 50 #[.pointer (some ⟨g, 0, none⟩), .int .i64 1] w' (Stp g A cap l pl k (.int .i32 (Tk.at' l (k + 1))) w')) := Lib.hid fun w' h => peek_any 1 1 rfl hm hk (by omega) h
 unfold Tk.opn
 generalize Tk.at' l k = a0 at *
 generalize Tk.at' l (k + 1) = a1 at *
 have M := Mv.refl g w
 by_cases e0 : a0 = 47
 ·subst e0
  by_cases e1 : a1 = 42
  ·subst e1
   go_enter Tryz.func87, Tryz.ntmps87
   go_wp2_with (go_at_call 50; (first | (with_reducible refine (C0.out _ S).mono ?_) | (with_reducible refine (C1.out _ S).mono ?_)); rintro e w1 ⟨rfl, S, m1⟩; have M := M.trans m1; clear m1)
   go_ret
   exact ⟨rfl, S, M⟩
  ·have f1 := Ru.eq_f e1
   go_enter Tryz.func87, Tryz.ntmps87
   go_wp2_with (go_at_call 50; (first | (with_reducible refine (C0.out _ S).mono ?_) | (with_reducible refine (C1.out _ S).mono ?_)); rintro e w1 ⟨rfl, S, m1⟩; have M := M.trans m1; clear m1)
   go_ret
   exact ⟨ret_bool (by simp [e1]), S, M⟩
 ·have f0 := Ru.eq_f e0
  go_enter Tryz.func87, Tryz.ntmps87
  go_wp2_with (go_at_call 50; (first | (with_reducible refine (C0.out _ S).mono ?_) | (with_reducible refine (C1.out _ S).mono ?_)); rintro e w1 ⟨rfl, S, m1⟩; have M := M.trans m1; clear m1)
  go_ret
  exact ⟨ret_bool (by simp [e0]), S, M⟩
end
section
variable {w : World} {g cap k : Nat} {A : Option Addr} {l : List Int} {pl : ByteArray}
def CmtC (g : Nat) (A : Option Addr) (cap : Nat) (l : List Int) (pl : ByteArray) (k : Nat) (w : World) (r : Nat) (wr : World) : Prop :=
 ∃ j, j <= l.length /\ l.length - j <= r /\ Hid (Tk.cmtE l (k + 2) = Tk.cmtE l j) /\ Sc wr g A cap l pl j /\ Mv g w wr
theorem passComment_any (hN : ∀ c ∈ l, 0 <= c) (hm : l.length <= 65536) (ho : Tk.opn l k = true) (S : Sc w g A cap l pl k) :
 Calls Tryz.prog 153 #[.pointer (some ⟨g, 0, none⟩)] w (Stp g A cap l pl (Tk.cmt l k) (.tuple #[]) w) := by
 have hk := Tk.opn_lt ho
 have HN := Lib.hid hN
 clear hN ho
 have P0 : Hid (∀ w', Sc w' g A cap l pl k -> Calls Tryz.prog 156 #[.pointer (some ⟨g, 0, none⟩), .int .i64 2] w' (Stp g A cap l pl (k + 2) (.tuple #[]) w')) := Lib.hid fun w' h => by have := pass_any 2 2 rfl hm (by omega) (by omega) h; rwa [Nat.min_eq_left (by omega)] at this
 have M := Mv.refl g w
 go_enter Tryz.func153, Tryz.ntmps153
 go_wp2_with (go_at_call 156; (first | (with_reducible refine (P0.out _ S).mono ?_)); rintro e w1 ⟨rfl, S, m1⟩; have M := M.trans m1; clear m1)
 clear P0
 go_loopg [] l.length (fun r wr => CmtC g A cap l pl k w r wr)
 case atStart => exact ⟨k + 2, by omega, by omega, Lib.hid rfl, S, M⟩
 case round =>
  clear S M
  obtain ⟨j, hj, hr, HC, S, M⟩ := hrel
  have C0 : Hid (∀ w', Sc w' g A cap l pl j -> Calls Tryz.prog 50 #[.pointer (some ⟨g, 0, none⟩), .int .i64 0] w' (Stp g A cap l pl j (.int .i32 (Tk.at' l j)) w')) := Lib.hid fun w' h => peek_any 0 0 rfl hm hj (by omega) h
  have C1 : Hid (∀ w', Sc w' g A cap l pl j -> Calls Tryz.prog 50 #[.pointer (some ⟨g, 0, none⟩), .int .i64 1] w' (Stp g A cap l pl j (.int .i32 (Tk.at' l (j + 1))) w')) := Lib.hid fun w' h => peek_any 1 1 rfl hm hj (by omega) h
  have P2 : Hid (∀ w', Sc w' g A cap l pl j -> Calls Tryz.prog 156 #[.pointer (some ⟨g, 0, none⟩), .int .i64 2] w' (Stp g A cap l pl (min (j + 2) l.length) (.tuple #[]) w')) := Lib.hid fun w' h => pass_any 2 2 rfl hm hj (by omega) h
  by_cases hlt : j < l.length
  ·have h0 := Tk.at_neg HN.out hlt
   have f0 := Ru.ne_t (show ¬ Tk.at' l j = -1 by omega)
   have T0 : Hid (∀ w', Sc w' g A cap l pl j -> Calls Tryz.prog 92 #[.pointer (some ⟨g, 0, none⟩)] w' (Stp g A cap l pl (j + 1) (.int .i32 (Tk.at' l j)) w')) := Lib.hid fun w' h => take_in hm hlt h
   by_cases e1 : Tk.at' l j = 42
   ·by_cases e2 : Tk.at' l (j + 1) = 47
    ·have HE : Hid (min (j + 2) l.length = Tk.cmt l k) := Lib.hid (by unfold Tk.cmt; rw [HC.out, Tk.cmtE_no (fun h => h.2 ⟨by rw [<- Tk.at_in hlt]; exact e1, e2⟩)])
     rw [e1] at C0 f0
     rw [e2] at C1
     clear e1 e2 HC T0 h0
     go_wp2_with (first | (go_at_call 50; (first | (with_reducible refine (C0.out _ S).mono ?_) | (with_reducible refine (C1.out _ S).mono ?_)); rintro e w1 ⟨rfl, S, m1⟩; have M := M.trans m1; clear m1) | (go_at_call 156; (first | (with_reducible refine (P2.out _ S).mono ?_)); rintro e w1 ⟨rfl, S, m1⟩; have M := M.trans m1; clear m1))
     go_end0
     exact ⟨rfl, by rw [<- HE.out]; exact S, M⟩
    ·have HE : Hid (Tk.cmtE l (k + 2) = Tk.cmtE l (j + 1)) := Lib.hid (by rw [HC.out, Tk.cmtE_yes ⟨hlt, fun h => e2 h.2⟩])
     have f2 := Ru.ne_t e2
     rw [e1] at C0 f0
     clear e1 e2 HC P2 h0
     generalize Tk.at' l j = a0 at *
     generalize Tk.at' l (j + 1) = a1 at *
     go_wp2_with (first | (go_at_call 50; (first | (with_reducible refine (C0.out _ S).mono ?_) | (with_reducible refine (C1.out _ S).mono ?_)); rintro e w1 ⟨rfl, S, m1⟩; have M := M.trans m1; clear m1) | (go_at_call 92; (first | (with_reducible refine (T0.out _ S).mono ?_)); rintro e w1 ⟨rfl, S, m1⟩; have M := M.trans m1; clear m1))
     go_roundg (l.length - (j + 1))
     case measure => omega
     case rel => exact ⟨j + 1, by omega, by omega, HE, S, M⟩
   ·have HE : Hid (Tk.cmtE l (k + 2) = Tk.cmtE l (j + 1)) := Lib.hid (by rw [HC.out, Tk.cmtE_yes ⟨hlt, fun h => e1 (by rw [Tk.at_in hlt]; exact h.1)⟩])
    have f1 := Ru.ne_t e1
    clear e1 HC P2 h0
    generalize Tk.at' l j = a0 at *
    generalize Tk.at' l (j + 1) = a1 at *
    go_wp2_with (first | (go_at_call 50; (first | (with_reducible refine (C0.out _ S).mono ?_) | (with_reducible refine (C1.out _ S).mono ?_)); rintro e w1 ⟨rfl, S, m1⟩; have M := M.trans m1; clear m1) | (go_at_call 92; (first | (with_reducible refine (T0.out _ S).mono ?_)); rintro e w1 ⟨rfl, S, m1⟩; have M := M.trans m1; clear m1))
    go_roundg (l.length - (j + 1))
    case measure => omega
    case rel => exact ⟨j + 1, by omega, by omega, HE, S, M⟩
  ·have HE : Hid (min (j + 2) l.length = Tk.cmt l k) := Lib.hid (by unfold Tk.cmt; rw [HC.out, Tk.cmtE_no (fun h => hlt h.1)])
   have ha := Tk.at_out hlt
   rw [ha] at C0
   clear ha HC
   go_wp2_with (first | (go_at_call 50; (first | (with_reducible refine (C0.out _ S).mono ?_) | (with_reducible refine (C1.out _ S).mono ?_)); rintro e w1 ⟨rfl, S, m1⟩; have M := M.trans m1; clear m1) | (go_at_call 156; (first | (with_reducible refine (P2.out _ S).mono ?_)); rintro e w1 ⟨rfl, S, m1⟩; have M := M.trans m1; clear m1))
   go_end0
   exact ⟨rfl, by rw [<- HE.out]; exact S, M⟩
def GapC (g : Nat) (A : Option Addr) (cap : Nat) (l : List Int) (pl : ByteArray) (k : Nat) (w : World) (r : Nat) (v : Value) (wr : World) : Prop :=
 ∃ (j : Nat) (b : Bool), j <= l.length /\ l.length - j <= r /\ v = .bool b /\ Hid (Tk.sp l k false = Tk.sp l j b) /\ Sc wr g A cap l pl j /\ Mv g w wr
theorem passGap_any (hN : ∀ c ∈ l, 0 <= c) (hm : l.length <= 65536) (hk : k <= l.length) (S : Sc w g A cap l pl k) :
 Calls Tryz.prog 88 #[.pointer (some ⟨g, 0, none⟩)] w (Stp g A cap l pl (Tk.sp l k false).1 (.bool (Tk.sp l k false).2) w) := by
 have HN := Lib.hid hN
 clear hN
 have M := Mv.refl g w
 go_enter Tryz.func88, Tryz.ntmps88
 go_wp2_with fail
 go_loopg [3] l.length (fun r v wr => GapC g A cap l pl k w r v wr)
 case atStart => exact ⟨k, false, hk, by omega, rfl, Lib.hid rfl, S, M⟩
 case round =>
  clear S M
  obtain ⟨j, b, hj, hr, rfl, HC, S, M⟩ := hrel
  have C0 : Hid (∀ w', Sc w' g A cap l pl j -> Calls Tryz.prog 50 #[.pointer (some ⟨g, 0, none⟩), .int .i64 0] w' (Stp g A cap l pl j (.int .i32 (Tk.at' l j)) w')) := Lib.hid fun w' h => peek_any 0 0 rfl hm hj (by omega) h
  have O0 : Hid (∀ w', Sc w' g A cap l pl j -> Calls Tryz.prog 87 #[.pointer (some ⟨g, 0, none⟩)] w' (Stp g A cap l pl j (.bool (Tk.opn l j)) w')) := Lib.hid fun w' h => opens_any hm hj h
  cases hw : Ru.whiB (Tk.at' l j)
  ·cases ho : Tk.opn l j
   ·have HE : Hid (Tk.sp l k false = (j, b)) := Lib.hid (by rw [HC.out, Tk.sp_no hw ho])
    rw [ho] at O0
    clear HC ho
    generalize Tk.at' l j = a0 at *
    go_wp2_with (first | (go_at_call 50; (first | (with_reducible refine (C0.out _ S).mono ?_)); rintro e w1 ⟨rfl, S, m1⟩; have M := M.trans m1; clear m1) | (go_at_call 86; ((with_reducible refine (white_any _ _).mono ?_); rintro e w1 ⟨rfl, rfl⟩)) | (go_at_call 87; (first | (with_reducible refine (O0.out _ S).mono ?_)); rintro e w1 ⟨rfl, S, m1⟩; have M := M.trans m1; clear m1))
    go_ret
    exact ⟨ret_bool (by rw [HE.out]), by rw [HE.out]; exact S, M⟩
   ·have HE : Hid (Tk.sp l k false = Tk.sp l (Tk.cmt l j) b) := Lib.hid (by rw [HC.out, Tk.sp_opn hw ho])
    have hc := Tk.cmt_le ho
    have Q0 : Hid (∀ w', Sc w' g A cap l pl j -> Calls Tryz.prog 153 #[.pointer (some ⟨g, 0, none⟩)] w' (Stp g A cap l pl (Tk.cmt l j) (.tuple #[]) w')) := Lib.hid fun w' h => passComment_any HN.out hm ho h
    rw [ho] at O0
    clear HC ho
    generalize Tk.at' l j = a0 at *
    generalize Tk.cmt l j = j2 at *
    go_wp2_with (first | (go_at_call 50; (first | (with_reducible refine (C0.out _ S).mono ?_)); rintro e w1 ⟨rfl, S, m1⟩; have M := M.trans m1; clear m1) | (go_at_call 86; ((with_reducible refine (white_any _ _).mono ?_); rintro e w1 ⟨rfl, rfl⟩)) | (go_at_call 87; (first | (with_reducible refine (O0.out _ S).mono ?_)); rintro e w1 ⟨rfl, S, m1⟩; have M := M.trans m1; clear m1) | (go_at_call 153; (first | (with_reducible refine (Q0.out _ S).mono ?_)); rintro e w1 ⟨rfl, S, m1⟩; have M := M.trans m1; clear m1))
    go_roundg (l.length - j2)
    case measure => omega
    case rel => exact ⟨j2, b, by omega, by omega, rfl, HE, S, M⟩
  ·have HE : Hid (Tk.sp l k false = Tk.sp l (j + 1) true) := Lib.hid (by rw [HC.out, Tk.sp_white hw])
   have hlt := Tk.whi_lt hw
   have T0 : Hid (∀ w', Sc w' g A cap l pl j -> Calls Tryz.prog 92 #[.pointer (some ⟨g, 0, none⟩)] w' (Stp g A cap l pl (j + 1) (.int .i32 (Tk.at' l j)) w')) := Lib.hid fun w' h => take_in hm hlt h
   clear HC
   generalize Tk.at' l j = a0 at *
   go_wp2_with (first | (go_at_call 50; (first | (with_reducible refine (C0.out _ S).mono ?_)); rintro e w1 ⟨rfl, S, m1⟩; have M := M.trans m1; clear m1) | (go_at_call 86; ((with_reducible refine (white_any _ _).mono ?_); rintro e w1 ⟨rfl, rfl⟩)) | (go_at_call 92; (first | (with_reducible refine (T0.out _ S).mono ?_)); rintro e w1 ⟨rfl, S, m1⟩; have M := M.trans m1; clear m1))
   go_roundg (l.length - (j + 1))
   case measure => omega
   case rel => exact ⟨j + 1, true, by omega, by omega, rfl, HE, S, M⟩
end
section
variable {w : World} {g cap k : Nat} {A : Option Addr} {l : List Int} {pl : ByteArray}
theorem or16 {n h : Int} (n1 : 0 <= n) (n2 : n <= 16777215) (h1 : 0 <= h) (h2 : h <= 15) : bits .or .i32 (n * 16) h = n * 16 + h :=
 bits_join .i32 31 (by decide) wraps_i32 4 (n * 16) h (by omega) (by omega) (by omega) h1 (by omega) (by omega)
def EscAt (g : Nat) (A : Option Addr) (cap : Nat) (l : List Int) (pl : ByteArray) (k : Nat) (w : World) (r : Nat) (v3 v4 : Value) (wr : World) : Prop :=
 ∃ (m j : Nat) (n : Int), m <= 6 /\ 6 - m <= r /\ v4 = .int .i64 m /\ v3 = .int .i32 n /\ j <= k + 1 + m /\ k + 1 + m <= j /\ j <= l.length /\ 0 <= n /\ n <= 16777215 /\ Hid (Tk.hexR (6 - m) l j n = Tk.hexR 6 l (k + 1) 0) /\ Hid (n < 16 ^ m) /\ Sc wr g A cap l pl j /\ Mv g w wr
theorem escape_any (hm : l.length <= 65536) (he : Tk.esc l k = true) (S : Sc w g A cap l pl k) :
 Calls Tryz.prog 155 #[.pointer (some ⟨g, 0, none⟩)] w (Stp g A cap l pl (Tk.meant l k).2 (.int .i32 (Tk.meant l k).1) w) := by
 have hk := (Tk.esc_lt he).1
 clear he
 have T0 : Hid (∀ w', Sc w' g A cap l pl k -> Calls Tryz.prog 92 #[.pointer (some ⟨g, 0, none⟩)] w' (Stp g A cap l pl (k + 1) (.int .i32 (Tk.at' l k)) w')) := Lib.hid fun w' h => take_in hm (by omega) h
 have C0 : Hid (∀ w', Sc w' g A cap l pl (k + 1) -> Calls Tryz.prog 50 #[.pointer (some ⟨g, 0, none⟩), .int .i64 0] w' (Stp g A cap l pl (k + 1) (.int .i32 (Tk.at' l (k + 1))) w')) := Lib.hid fun w' h => peek_any 0 0 rfl hm (by omega) (by omega) h
 have M := Mv.refl g w
 by_cases hh : 0 <= Ru.hexV (Tk.at' l (k + 1))
 ·have HH0 := Lib.hid hh
  generalize Tk.at' l k = y at *
  generalize hy1 : Tk.at' l (k + 1) = y1 at *
  have HY1 := Lib.hid hy1
  clear hy1
  go_enter Tryz.func155, Tryz.ntmps155
  go_wp2_with (first | (go_at_call 50; (first | (with_reducible refine (C0.out _ S).mono ?_)); rintro e w1 ⟨rfl, S, m1⟩; have M := M.trans m1; clear m1) | (go_at_call 92; (first | (with_reducible refine (T0.out _ S).mono ?_)); rintro e w1 ⟨rfl, S, m1⟩; have M := M.trans m1; clear m1) | (go_at_call 194; ((with_reducible refine (hex_any _ _).mono ?_); rintro e w1 ⟨rfl, rfl⟩)) | (go_at_call 86; ((with_reducible refine (white_any _ _).mono ?_); rintro e w1 ⟨rfl, rfl⟩)) | (go_at_call 195; ((with_reducible refine (is_any _ _).mono ?_); rintro e w1 ⟨rfl, rfl⟩)))
  go_loopg [3, 4] 6 (fun r v3 v4 wr => EscAt g A cap l pl k w r v3 v4 wr)
  case atStart => exact ⟨0, k + 1, 0, by omega, by omega, by go_num, rfl, by omega, by omega, by omega, by omega, by omega, Lib.hid rfl, Lib.hid (by decide), S, M⟩
  case round =>
   clear S M C0 T0 hh
   obtain ⟨m, j, n, m1, hr, rfl, rfl, j1, j2, j3, n1, n2, HR, HN16, S, M⟩ := hrel
   have C0 : Hid (∀ w', Sc w' g A cap l pl j -> Calls Tryz.prog 50 #[.pointer (some ⟨g, 0, none⟩), .int .i64 0] w' (Stp g A cap l pl j (.int .i32 (Tk.at' l j)) w')) := Lib.hid fun w' h => peek_any 0 0 rfl hm j3 (by omega) h
   by_cases hlt : m < 6
   ·by_cases hh : 0 <= Ru.hexV (Tk.at' l j)
    ·have hle := (Tk.hexV_le (Tk.at' l j)).2
     have hjl : j < l.length := Tk.at_lt (fun e => by rw [e, Tk.hexV_out] at hh; omega)
     have HX : Hid (Tk.hexR (6 - (m + 1)) l (j + 1) (n * 16 + Ru.hexV (Tk.at' l j)) = Tk.hexR 6 l (k + 1) 0) := Lib.hid (by
      have := Tk.hexR_yes (f := 6 - (m + 1)) (n := n) hh
      rw [<- HR.out, show 6 - m = 6 - (m + 1) + 1 by omega, this])
     have hp5 := Tk.pow16 (m := m) (by omega)
     have hn3 : n <= 1048575 := by have := HN16.out; omega
     have HN' : Hid (n * 16 + Ru.hexV (Tk.at' l j) < 16 ^ (m + 1)) := Lib.hid (by have := HN16.out; rw [Int.pow_succ]; omega)
     clear HN16 HR hp5
     have T0 : Hid (∀ w', Sc w' g A cap l pl j -> Calls Tryz.prog 92 #[.pointer (some ⟨g, 0, none⟩)] w' (Stp g A cap l pl (j + 1) (.int .i32 (Tk.at' l j)) w')) := Lib.hid fun w' h => take_in hm hjl h
     generalize Tk.at' l j = a at *
     generalize hhx : Ru.hexV a = h at *
     go_wp2_with (first | (go_at_call 50; (first | (with_reducible refine (C0.out _ S).mono ?_)); rintro e w1 ⟨rfl, S, m1⟩; have M := M.trans m1; clear m1) | (go_at_call 92; (first | (with_reducible refine (T0.out _ S).mono ?_)); rintro e w1 ⟨rfl, S, m1⟩; have M := M.trans m1; clear m1) | (go_at_call 194; ((with_reducible refine (hex_any _ _).mono ?_); rintro e w1 ⟨rfl, rfl⟩)) | (go_at_call 86; ((with_reducible refine (white_any _ _).mono ?_); rintro e w1 ⟨rfl, rfl⟩)) | (go_at_call 195; ((with_reducible refine (is_any _ _).mono ?_); rintro e w1 ⟨rfl, rfl⟩)))
     go_roundg (6 - (m + 1))
     case measure => omega
     case rel => exact ⟨m + 1, j + 1, n * 16 + h, by omega, by omega, by go_num, by rw [or16 n1 (by omega) (by omega) (by omega)], by omega, by omega, by omega, by omega, by omega, HX, HN', S, M⟩
    ·have HE : Hid (Tk.hexR 6 l (k + 1) 0 = (n, j)) := Lib.hid (by rw [<- HR.out, Tk.hexR_no hh])
     have hh' : Ru.hexV (Tk.at' l j) < 0 := by omega
     have m0 : m ≠ 0 := fun e => by
      have e2 : j = k + 1 := by omega
      rw [e2, HY1.out] at hh
      exact hh HH0.out
     clear hh
     have HM := Lib.hid (Tk.meant_some HE.out (by omega))
     have HK : Hid (Tk.meantK l j = if Ru.whiB (Tk.at' l j) = true then j + 1 else j) := Lib.hid rfl
     have HW : Hid (Ru.whiB (Tk.at' l j) = true -> j < l.length) := Lib.hid Tk.whi_lt
     clear HE HR HN16 HH0
     have T1 : Hid (j < l.length -> ∀ w', Sc w' g A cap l pl j -> Calls Tryz.prog 92 #[.pointer (some ⟨g, 0, none⟩)] w' (Stp g A cap l pl (j + 1) (.int .i32 (Tk.at' l j)) w')) := Lib.hid fun hlt w' h => take_in hm hlt h
     generalize Tk.at' l j = a at *
     by_cases n0 : n = 0
     ·subst n0
      have HV2 : Hid (Tk.meantN 0 = 65533) := Lib.hid rfl
      cases hw : Ru.whiB a
      ·rw [hw] at HK
       go_wp2_with (first | (go_at_call 50; (first | (with_reducible refine (C0.out _ S).mono ?_)); rintro e w1 ⟨rfl, S, m1⟩; have M := M.trans m1; clear m1) | (go_at_call 92; (first | (with_reducible refine (T0.out _ S).mono ?_)); rintro e w1 ⟨rfl, S, m1⟩; have M := M.trans m1; clear m1) | (go_at_call 194; ((with_reducible refine (hex_any _ _).mono ?_); rintro e w1 ⟨rfl, rfl⟩)) | (go_at_call 86; ((with_reducible refine (white_any _ _).mono ?_); rintro e w1 ⟨rfl, rfl⟩)) | (go_at_call 195; ((with_reducible refine (is_any _ _).mono ?_); rintro e w1 ⟨rfl, rfl⟩)))
       go_ret
       exact ⟨ret_int (by rw [HM.out]; exact HV2.out.symm), by rw [HM.out, HK.out]; simpa using S, M⟩
      ·rw [hw] at HK
       have T0 := Lib.hid (T1.out (HW.out hw))
       go_wp2_with (first | (go_at_call 50; (first | (with_reducible refine (C0.out _ S).mono ?_)); rintro e w1 ⟨rfl, S, m1⟩; have M := M.trans m1; clear m1) | (go_at_call 92; (first | (with_reducible refine (T0.out _ S).mono ?_)); rintro e w1 ⟨rfl, S, m1⟩; have M := M.trans m1; clear m1) | (go_at_call 194; ((with_reducible refine (hex_any _ _).mono ?_); rintro e w1 ⟨rfl, rfl⟩)) | (go_at_call 86; ((with_reducible refine (white_any _ _).mono ?_); rintro e w1 ⟨rfl, rfl⟩)) | (go_at_call 195; ((with_reducible refine (is_any _ _).mono ?_); rintro e w1 ⟨rfl, rfl⟩)))
       go_ret
       exact ⟨ret_int (by rw [HM.out]; exact HV2.out.symm), by rw [HM.out, HK.out]; simpa using S, M⟩
     ·have en : ((n : Int) == 0) = false := Ru.eq_f n0
      cases hi : Ru.isB n
      ·have HV2 : Hid (Tk.meantN n = 65533) := Lib.hid (by unfold Tk.meantN; rw [if_pos (Or.inr hi)])
       cases hw : Ru.whiB a
       ·rw [hw] at HK
        go_wp2_with (first | (go_at_call 50; (first | (with_reducible refine (C0.out _ S).mono ?_)); rintro e w1 ⟨rfl, S, m1⟩; have M := M.trans m1; clear m1) | (go_at_call 92; (first | (with_reducible refine (T0.out _ S).mono ?_)); rintro e w1 ⟨rfl, S, m1⟩; have M := M.trans m1; clear m1) | (go_at_call 194; ((with_reducible refine (hex_any _ _).mono ?_); rintro e w1 ⟨rfl, rfl⟩)) | (go_at_call 86; ((with_reducible refine (white_any _ _).mono ?_); rintro e w1 ⟨rfl, rfl⟩)) | (go_at_call 195; ((with_reducible refine (is_any _ _).mono ?_); rintro e w1 ⟨rfl, rfl⟩)))
        go_ret
        exact ⟨ret_int (by rw [HM.out, HV2.out]), by rw [HM.out, HK.out]; simpa using S, M⟩
       ·rw [hw] at HK
        have T0 := Lib.hid (T1.out (HW.out hw))
        go_wp2_with (first | (go_at_call 50; (first | (with_reducible refine (C0.out _ S).mono ?_)); rintro e w1 ⟨rfl, S, m1⟩; have M := M.trans m1; clear m1) | (go_at_call 92; (first | (with_reducible refine (T0.out _ S).mono ?_)); rintro e w1 ⟨rfl, S, m1⟩; have M := M.trans m1; clear m1) | (go_at_call 194; ((with_reducible refine (hex_any _ _).mono ?_); rintro e w1 ⟨rfl, rfl⟩)) | (go_at_call 86; ((with_reducible refine (white_any _ _).mono ?_); rintro e w1 ⟨rfl, rfl⟩)) | (go_at_call 195; ((with_reducible refine (is_any _ _).mono ?_); rintro e w1 ⟨rfl, rfl⟩)))
        go_ret
        exact ⟨ret_int (by rw [HM.out, HV2.out]), by rw [HM.out, HK.out]; simpa using S, M⟩
      ·have HV2 : Hid (Tk.meantN n = n) := Lib.hid (by unfold Tk.meantN; rw [if_neg (by rw [hi]; simp [n0])])
       cases hw : Ru.whiB a
       ·rw [hw] at HK
        go_wp2_with (first | (go_at_call 50; (first | (with_reducible refine (C0.out _ S).mono ?_)); rintro e w1 ⟨rfl, S, m1⟩; have M := M.trans m1; clear m1) | (go_at_call 92; (first | (with_reducible refine (T0.out _ S).mono ?_)); rintro e w1 ⟨rfl, S, m1⟩; have M := M.trans m1; clear m1) | (go_at_call 194; ((with_reducible refine (hex_any _ _).mono ?_); rintro e w1 ⟨rfl, rfl⟩)) | (go_at_call 86; ((with_reducible refine (white_any _ _).mono ?_); rintro e w1 ⟨rfl, rfl⟩)) | (go_at_call 195; ((with_reducible refine (is_any _ _).mono ?_); rintro e w1 ⟨rfl, rfl⟩)))
        go_ret
        exact ⟨ret_int (by rw [HM.out, HV2.out]), by rw [HM.out, HK.out]; simpa using S, M⟩
       ·rw [hw] at HK
        have T0 := Lib.hid (T1.out (HW.out hw))
        go_wp2_with (first | (go_at_call 50; (first | (with_reducible refine (C0.out _ S).mono ?_)); rintro e w1 ⟨rfl, S, m1⟩; have M := M.trans m1; clear m1) | (go_at_call 92; (first | (with_reducible refine (T0.out _ S).mono ?_)); rintro e w1 ⟨rfl, S, m1⟩; have M := M.trans m1; clear m1) | (go_at_call 194; ((with_reducible refine (hex_any _ _).mono ?_); rintro e w1 ⟨rfl, rfl⟩)) | (go_at_call 86; ((with_reducible refine (white_any _ _).mono ?_); rintro e w1 ⟨rfl, rfl⟩)) | (go_at_call 195; ((with_reducible refine (is_any _ _).mono ?_); rintro e w1 ⟨rfl, rfl⟩)))
        go_ret
        exact ⟨ret_int (by rw [HM.out, HV2.out]), by rw [HM.out, HK.out]; simpa using S, M⟩
   ·have HE : Hid (Tk.hexR 6 l (k + 1) 0 = (n, j)) := Lib.hid (by rw [<- HR.out, show 6 - m = 0 by omega]; rfl)
    have HM := Lib.hid (Tk.meant_some HE.out (by omega))
    have HK : Hid (Tk.meantK l j = if Ru.whiB (Tk.at' l j) = true then j + 1 else j) := Lib.hid rfl
    have HW : Hid (Ru.whiB (Tk.at' l j) = true -> j < l.length) := Lib.hid Tk.whi_lt
    clear HE HR HN16 HH0
    have T1 : Hid (j < l.length -> ∀ w', Sc w' g A cap l pl j -> Calls Tryz.prog 92 #[.pointer (some ⟨g, 0, none⟩)] w' (Stp g A cap l pl (j + 1) (.int .i32 (Tk.at' l j)) w')) := Lib.hid fun hlt w' h => take_in hm hlt h
    generalize Tk.at' l j = a at *
    by_cases n0 : n = 0
    ·subst n0
     have HV2 : Hid (Tk.meantN 0 = 65533) := Lib.hid rfl
     cases hw : Ru.whiB a
     ·rw [hw] at HK
      go_wp2_with (first | (go_at_call 50; (first | (with_reducible refine (C0.out _ S).mono ?_)); rintro e w1 ⟨rfl, S, m1⟩; have M := M.trans m1; clear m1) | (go_at_call 92; (first | (with_reducible refine (T0.out _ S).mono ?_)); rintro e w1 ⟨rfl, S, m1⟩; have M := M.trans m1; clear m1) | (go_at_call 194; ((with_reducible refine (hex_any _ _).mono ?_); rintro e w1 ⟨rfl, rfl⟩)) | (go_at_call 86; ((with_reducible refine (white_any _ _).mono ?_); rintro e w1 ⟨rfl, rfl⟩)) | (go_at_call 195; ((with_reducible refine (is_any _ _).mono ?_); rintro e w1 ⟨rfl, rfl⟩)))
      go_ret
      exact ⟨ret_int (by rw [HM.out]; exact HV2.out.symm), by rw [HM.out, HK.out]; simpa using S, M⟩
     ·rw [hw] at HK
      have T0 := Lib.hid (T1.out (HW.out hw))
      go_wp2_with (first | (go_at_call 50; (first | (with_reducible refine (C0.out _ S).mono ?_)); rintro e w1 ⟨rfl, S, m1⟩; have M := M.trans m1; clear m1) | (go_at_call 92; (first | (with_reducible refine (T0.out _ S).mono ?_)); rintro e w1 ⟨rfl, S, m1⟩; have M := M.trans m1; clear m1) | (go_at_call 194; ((with_reducible refine (hex_any _ _).mono ?_); rintro e w1 ⟨rfl, rfl⟩)) | (go_at_call 86; ((with_reducible refine (white_any _ _).mono ?_); rintro e w1 ⟨rfl, rfl⟩)) | (go_at_call 195; ((with_reducible refine (is_any _ _).mono ?_); rintro e w1 ⟨rfl, rfl⟩)))
      go_ret
      exact ⟨ret_int (by rw [HM.out]; exact HV2.out.symm), by rw [HM.out, HK.out]; simpa using S, M⟩
    ·have en : ((n : Int) == 0) = false := Ru.eq_f n0
     cases hi : Ru.isB n
     ·have HV2 : Hid (Tk.meantN n = 65533) := Lib.hid (by unfold Tk.meantN; rw [if_pos (Or.inr hi)])
      cases hw : Ru.whiB a
      ·rw [hw] at HK
       go_wp2_with (first | (go_at_call 50; (first | (with_reducible refine (C0.out _ S).mono ?_)); rintro e w1 ⟨rfl, S, m1⟩; have M := M.trans m1; clear m1) | (go_at_call 92; (first | (with_reducible refine (T0.out _ S).mono ?_)); rintro e w1 ⟨rfl, S, m1⟩; have M := M.trans m1; clear m1) | (go_at_call 194; ((with_reducible refine (hex_any _ _).mono ?_); rintro e w1 ⟨rfl, rfl⟩)) | (go_at_call 86; ((with_reducible refine (white_any _ _).mono ?_); rintro e w1 ⟨rfl, rfl⟩)) | (go_at_call 195; ((with_reducible refine (is_any _ _).mono ?_); rintro e w1 ⟨rfl, rfl⟩)))
       go_ret
       exact ⟨ret_int (by rw [HM.out, HV2.out]), by rw [HM.out, HK.out]; simpa using S, M⟩
      ·rw [hw] at HK
       have T0 := Lib.hid (T1.out (HW.out hw))
       go_wp2_with (first | (go_at_call 50; (first | (with_reducible refine (C0.out _ S).mono ?_)); rintro e w1 ⟨rfl, S, m1⟩; have M := M.trans m1; clear m1) | (go_at_call 92; (first | (with_reducible refine (T0.out _ S).mono ?_)); rintro e w1 ⟨rfl, S, m1⟩; have M := M.trans m1; clear m1) | (go_at_call 194; ((with_reducible refine (hex_any _ _).mono ?_); rintro e w1 ⟨rfl, rfl⟩)) | (go_at_call 86; ((with_reducible refine (white_any _ _).mono ?_); rintro e w1 ⟨rfl, rfl⟩)) | (go_at_call 195; ((with_reducible refine (is_any _ _).mono ?_); rintro e w1 ⟨rfl, rfl⟩)))
       go_ret
       exact ⟨ret_int (by rw [HM.out, HV2.out]), by rw [HM.out, HK.out]; simpa using S, M⟩
     ·have HV2 : Hid (Tk.meantN n = n) := Lib.hid (by unfold Tk.meantN; rw [if_neg (by rw [hi]; simp [n0])])
      cases hw : Ru.whiB a
      ·rw [hw] at HK
       go_wp2_with (first | (go_at_call 50; (first | (with_reducible refine (C0.out _ S).mono ?_)); rintro e w1 ⟨rfl, S, m1⟩; have M := M.trans m1; clear m1) | (go_at_call 92; (first | (with_reducible refine (T0.out _ S).mono ?_)); rintro e w1 ⟨rfl, S, m1⟩; have M := M.trans m1; clear m1) | (go_at_call 194; ((with_reducible refine (hex_any _ _).mono ?_); rintro e w1 ⟨rfl, rfl⟩)) | (go_at_call 86; ((with_reducible refine (white_any _ _).mono ?_); rintro e w1 ⟨rfl, rfl⟩)) | (go_at_call 195; ((with_reducible refine (is_any _ _).mono ?_); rintro e w1 ⟨rfl, rfl⟩)))
       go_ret
       exact ⟨ret_int (by rw [HM.out, HV2.out]), by rw [HM.out, HK.out]; simpa using S, M⟩
      ·rw [hw] at HK
       have T0 := Lib.hid (T1.out (HW.out hw))
       go_wp2_with (first | (go_at_call 50; (first | (with_reducible refine (C0.out _ S).mono ?_)); rintro e w1 ⟨rfl, S, m1⟩; have M := M.trans m1; clear m1) | (go_at_call 92; (first | (with_reducible refine (T0.out _ S).mono ?_)); rintro e w1 ⟨rfl, S, m1⟩; have M := M.trans m1; clear m1) | (go_at_call 194; ((with_reducible refine (hex_any _ _).mono ?_); rintro e w1 ⟨rfl, rfl⟩)) | (go_at_call 86; ((with_reducible refine (white_any _ _).mono ?_); rintro e w1 ⟨rfl, rfl⟩)) | (go_at_call 195; ((with_reducible refine (is_any _ _).mono ?_); rintro e w1 ⟨rfl, rfl⟩)))
       go_ret
       exact ⟨ret_int (by rw [HM.out, HV2.out]), by rw [HM.out, HK.out]; simpa using S, M⟩
 ·have hh' : Ru.hexV (Tk.at' l (k + 1)) < 0 := by omega
  have HM : Hid (Tk.meant l k = (Tk.at' l (k + 1), k + 2)) := Lib.hid (by
   rw [Tk.at_in hk]
   exact Tk.meant_none (n := 0) (Tk.hexR_no (by rw [show k + 1 = k + 1 from rfl]; omega)))
  have T1 : Hid (∀ w', Sc w' g A cap l pl (k + 1) -> Calls Tryz.prog 92 #[.pointer (some ⟨g, 0, none⟩)] w' (Stp g A cap l pl (k + 2) (.int .i32 (Tk.at' l (k + 1))) w')) := Lib.hid fun w' h => take_in hm hk h
  clear hh
  generalize Tk.at' l k = y at *
  generalize Tk.at' l (k + 1) = y1 at *
  go_enter Tryz.func155, Tryz.ntmps155
  go_wp2_with (first | (go_at_call 50; (first | (with_reducible refine (C0.out _ S).mono ?_)); rintro e w1 ⟨rfl, S, m1⟩; have M := M.trans m1; clear m1) | (go_at_call 92; (first | (with_reducible refine (T0.out _ S).mono ?_) | (with_reducible refine (T1.out _ S).mono ?_)); rintro e w1 ⟨rfl, S, m1⟩; have M := M.trans m1; clear m1) | (go_at_call 194; ((with_reducible refine (hex_any _ _).mono ?_); rintro e w1 ⟨rfl, rfl⟩)) | (go_at_call 86; ((with_reducible refine (white_any _ _).mono ?_); rintro e w1 ⟨rfl, rfl⟩)) | (go_at_call 195; ((with_reducible refine (is_any _ _).mono ?_); rintro e w1 ⟨rfl, rfl⟩)))
  go_ret
  exact ⟨ret_int (by rw [HM.out]), by rw [HM.out]; exact S, M⟩
end
theorem write_next {w wr w3 : World} {v v' : Value} {l : List Int} {k : Nat} {x : Int} (hk : l.take (k + 1) = l.take k ++ [x])
 (hown : wr.ownsRow w.heap.size 5 1 v (Ru.wr (l.take k)).length (nums .u8 (Ru.wr (l.take k)))) (hbel : Below w.heap.size w wr)
 (hown3 : w3.ownsRow w.heap.size 5 1 v' ((Ru.wr (l.take k)).length + (Lib.runeCells x).length) (nums .u8 (Ru.wr (l.take k)) ++ Lib.runeCells x)) (hgrow : ∃ o, (wr.alloc o).grownBy w3 v.ownBlock) :
 w3.ownsRow w.heap.size 5 1 v' (Ru.wr (l.take (k + 1))).length (nums .u8 (Ru.wr (l.take (k + 1)))) /\ Below w.heap.size w w3 := by
 obtain ⟨o, hgrow⟩ := hgrow
 refine ⟨?_, ?_⟩
 ·rw [hk, Ru.wr_snoc, nums_app, List.length_append, <- cells_enc]
  rw [cells_enc] at hown3 ⊢
  rwa [nums_len] at hown3
 ·have hs := hbel.size
  exact (hbel.alloc (by omega) o).grown hgrow (by simp; omega) (fun j hj => (hown.lt j hj).1)
theorem write_any (l : List Int) (A : Option Addr) (cap : Nat) (w : World) (hm : l.length <= 65536) (hcap : l.length <= cap) (hr : ∀ c ∈ l, -2147483648 <= c /\ c <= 2147483647) (hA : Bs w w.heap.size .i32 A l) :
 Calls Tryz.prog 162 #[.slice A l.length cap] w (Made .u8 5 (Ru.wr l) w) := by
 obtain ⟨i0, hi, hz0, hz1, hz2⟩ := info_parts Tryz.info5
 have CA : Hid (∀ (v : Value) (n : Nat) (xs : List Value) (r : Int) (wq : World), -2147483648 <= r -> r <= 2147483647 -> wq.ownsRow w.heap.size 5 1 v n xs -> n + 4 <= 140737488355328 -> w.heap.size <= wq.heap.size ->
  Calls Tryz.prog 201 #[v, .int .i32 r] wq fun e w' => ∃ v', e = .returned v' /\ w'.ownsRow w.heap.size 5 1 v' (n + (Lib.runeCells r).length) (xs ++ Lib.runeCells r) /\ ∃ o, (wq.alloc o).grownBy w' v.ownBlock) :=
  Lib.hid fun v n xs r wq h1 h2 h3 h4 h5 => Tryz.utf8_AppendRune_plain w.heap.size v n xs r h1 h2 wq h3 h4 h5
 have HA := Lib.hid hA
 have HR := Lib.hid hr
 clear hA hr
 by_cases h0 : 0 < l.length
 ·obtain ⟨b, off, rfl, hb, hp⟩ := HA.out h0
  have HP := Lib.hid hp
  clear hp HA
  go_enter Tryz.func162, Tryz.ntmps162
  go_wp2_with (at_make; refine wpList_make_own _ rfl _ _ 22 rfl w.heap.size 5 i0 (.int .u8 0) 1 Tryz.underlying22 hi hz0 hz1 .i64 .i64 _ l.length rfl rfl rfl (by rw [hz2]; omega) (by unfold maxLen; omega) (Nat.le_refl _) ?_; intro w1 hown1 hgrow1; have HB1 := Lib.hid ((Below.refl w.heap.size w).grown hgrow1 (Nat.le_refl _) (by simp)); have HO1 := Lib.hid hown1; clear hown1 hgrow1)
  go_loopw [3, 11] (fun v3 v11 wr => WriteAt w l v3 v11 wr) (fun _ v11 _ => l.length - (RowKit.intOf v11).toNat)
  case atStart => exact ⟨0, Nat.zero_le _, rfl, HO1.out, HB1.out⟩
  case round =>
   obtain ⟨k, hk, rfl, hown, hbel⟩ := hrel
   have HO := Lib.hid hown
   have HB := Lib.hid hbel
   clear hown hbel HO1 HB1
   by_cases hlt : k < l.length
   ·have hcell := (HB.out.cell (p := ⟨b, off + k, none⟩) hb).trans (HP.out k hlt)
    have hr := HR.out _ (List.getElem_mem hlt)
    rw [<- Ru.g_eq hlt] at hr
    obtain ⟨r1, r2⟩ := hr
    have HN := Lib.hid (Ru.take_g hlt)
    have hc4 : (Ru.wr (l.take k)).length + 4 <= 140737488355328 := by have := Ru.wr_len (l.take k); have := List.length_take_le k l; omega
    generalize Ru.g l k = x at *
    go_wp2_with (go_at_call 201; ((with_reducible refine (CA.out _ _ _ _ _ r1 r2 HO.out hc4 HB.out.size).mono ?_); rintro e w3 ⟨v', rfl, hown3, hgrow⟩; have HO3 := Lib.hid (write_next HN.out HO.out HB.out hown3 hgrow); clear hown3 hgrow))
    go_roundw
    case rel => exact ⟨k + 1, by omega, by go_num, HO3.out.1, HO3.out.2⟩
    case measure => simp [RowKit.intOf]; omega
   ·obtain rfl : k = l.length := by omega
    have hd : Hid (l.take l.length = l) := Lib.hid (List.take_length)
    clear HP
    go_wp2_with fail
    go_ret
    exact ⟨_, rfl, by have := HO.out; rw [hd.out] at this; exact this, HB.out⟩
 ·have hl : l = [] := List.eq_nil_of_length_eq_zero (by omega)
  subst hl
  go_enter Tryz.func162, Tryz.ntmps162
  go_wp2_with (at_make; refine wpList_make_own _ rfl _ _ 22 rfl w.heap.size 5 i0 (.int .u8 0) 1 Tryz.underlying22 hi hz0 hz1 .i64 .i64 _ 0 rfl rfl rfl (by rw [hz2]; omega) (by unfold maxLen; omega) (Nat.le_refl _) ?_; intro w1 hown1 hgrow1; have HB1 := Lib.hid ((Below.refl w.heap.size w).grown hgrow1 (Nat.le_refl _) (by simp)); have HO1 := Lib.hid hown1; clear hown1 hgrow1)
  go_loopw [3, 11] (fun v3 v11 wr => v11 = .int .i64 0 /\ wr.ownsRow w.heap.size 5 1 v3 0 [] /\ Below w.heap.size w wr) (fun _ _ _ => 0)
  case atStart => exact ⟨rfl, HO1.out, HB1.out⟩
  case round =>
   obtain ⟨rfl, hown, hbel⟩ := hrel
   have HO := Lib.hid hown
   have HB := Lib.hid hbel
   clear hown hbel
   go_wp2_with fail
   go_ret
   exact ⟨_, rfl, HO.out, HB.out⟩
theorem Tryz.info32 : (Tryz.prog.info? 21).map (fun i => (i.zero, i.size, i.bytes)) = some (some (.int .i32 0), 1, 4) := by kernel_rfl
def W32 (ds : List Int) : Prop := ∀ c ∈ ds, -2147483648 <= c /\ c <= 2147483647
theorem W32.add {ds : List Int} {x : Int} (h : W32 ds) (h1 : -2147483648 <= x) (h2 : x <= 2147483647) : W32 (ds ++ [x]) := by
 intro c hc
 rw [List.mem_append, List.mem_singleton] at hc
 rcases hc with hc | rfl
 ·exact h c hc
 ·exact ⟨h1, h2⟩
abbrev addF (c : Nat) : Value := .func (.func 192) #[] #[.pointer (some ⟨c, 0, none⟩)]
abbrev toldF (c : Nat) : Value := .func (.func 193) #[] #[.pointer (some ⟨c, 0, none⟩)]
def Gathered (w : World) (e : Ending) (w' : World) : Prop :=
 ∃ c : Nat, e = .returned (.tuple #[addF c, toldF c]) /\ w.heap.size <= c /\ Ga w' c [] /\ Below w.heap.size w w'
theorem gather_any (w : World) : Calls Tryz.prog 154 #[] w (Gathered w) := by
 have hmf : ∀ (fn : Fn) (first cap : Array Value) (w : World), (Instr.makeFunc fn first cap).run Tryz.prog w = .ok (.func fn first cap) w := fun _ _ _ _ => rfl
 go_enter Tryz.func154, Tryz.ntmps154
 go_wp2_with fail
 go_ret2
 refine ⟨w.heap.size, rfl, Nat.le_refl _, ⟨_, heap_alloc_new w _, World.ownsRow_nil _ _ _ _⟩, (Below.refl _ _).alloc (Nat.le_refl _) _⟩
theorem row_form {w : World} {B : Nat} {E : TypeId} {m n : Nat} {v : Value} {xs : List Value} (h : w.ownsRow B E m v n xs) : ∃ (A : Option Addr) (cap : Nat), v = .slice A n cap := by
 rcases h.2 with ⟨rfl, h0⟩ | ⟨x, cap, cur, rfl, _, _, _, _⟩
 ·exact ⟨none, 0, by rw [h0]⟩
 ·exact ⟨_, cap, rfl⟩
def Added (c : Nat) (ds : List Int) (w : World) (e : Ending) (w' : World) : Prop := e = .returned (.tuple #[]) /\ Ga w' c ds /\ Below c w w'
theorem add_any' (c : Nat) (ds : List Int) (x : Int) (w : World) (hd : ds.length <= 65536) (h : Ga w c ds) :
 Calls Tryz.prog 192 #[.int .i32 x, .pointer (some ⟨c, 0, none⟩)] w (Added c (ds ++ [x]) w) := by
 obtain ⟨i0, hi, hz0, hz1, hz2⟩ := info_parts Tryz.info32
 obtain ⟨v, hblk, hown⟩ := h
 have hcs := lt_of_block hblk
 have hcell := cell_of_one hblk
 have HK := Lib.hid hblk
 have HO := Lib.hid hown
 have hc3 : ds.length + 1 <= maxLen := by unfold maxLen; omega
 have hc4 : (ds.length + 1) * 4 <= 140737488355328 := by omega
 clear hblk hown
 go_enter Tryz.func192, Tryz.ntmps192
 go_wp2_with (at_builtin; refine wpList_append_own _ rfl _ _ 83 rfl (c + 1) 21 i0 (.int .i32 0) 1 4 Tryz.underlying83 hi hz0 hz1 hz2 rfl (by decide) _ _ _ rfl (HO.out.alloc _) ⟨w.heap.size, 0, none⟩ 1 1 [.int .i32 x] rfl rfl (one_cell _ _) (one_ok _) hc3 hc4 (alloc_size (show c + 1 <= w.heap.size by omega) _) ?_; intro v' w3 hown3 hgrow _; obtain ⟨A5, c5, rfl⟩ := row_form hown3; have HB3 := Lib.hid (((hgrow.block c (by simp; omega) (fun e => by have := (HO.out.lt c e.symm).1; omega)).trans (Below.heap_alloc w _ c hcs)).trans HK.out); have k3 := cell_of_one HB3.out; have f3 := free_of_one HB3.out; have HG := Lib.hid (((Below.refl c w).alloc (Nat.le_of_lt hcs) _).grown hgrow (by simp; omega) (fun j hj => by have := (HO.out.lt j hj).1; omega)); have HO3 := Lib.hid hown3; clear hown3 hgrow)
 go_end0
 refine ⟨rfl, ⟨_, one_setCell HB3.out, ?_⟩, HG.out.setCell (Nat.le_refl _) _⟩
 have := ownsRow_setCell_below HO3.out (a := ⟨c, 0, none⟩) (Nat.lt_succ_self c) (.slice A5 (ds.length + 1) c5)
 rw [nums_app, List.length_append]
 exact this
theorem told_any (c : Nat) (ds : List Int) (w : World) (hd : ds.length <= 65536) (hr : W32 ds) (h : Ga w c ds) :
 Calls Tryz.prog 193 #[.pointer (some ⟨c, 0, none⟩)] w fun e w' => e = .returned (.string (Tk.str ds)) /\ Below w.heap.size w w' := by
 obtain ⟨v, hblk, hown⟩ := h
 obtain ⟨A1, c1, hv, k1, B1⟩ := own_bs hown
 subst hv
 have hcell := cell_of_one hblk
 have C1 := Lib.hid ((write_any ds A1 c1 w hd k1 hr B1).mono fun _ _ h => made_form h)
 clear hblk hown B1
 unfold Tk.str
 generalize Ru.wr ds = r at *
 go_enter Tryz.func193, Tryz.ntmps193
 go_wp2_with (go_at_call 162; ((with_reducible refine (C1.out).mono ?_); rintro e w1 ⟨A2, c2, rfl, k2, B2, b2⟩; have cv := conv_bytes c2 B2))
 go_ret
 exact ⟨rfl, b2⟩
section
variable {w : World} {g cap k : Nat} {A : Option Addr} {l : List Int} {pl : ByteArray}
def QuoS (g : Nat) (A : Option Addr) (cap : Nat) (l : List Int) (pl : ByteArray) (e : Int) (k0 c b : Nat) (w : World) (r : Nat) (wr : World) : Prop :=
 ∃ (j : Nat) (ds : List Int), j <= l.length /\ l.length - j <= r /\ ds.length <= j /\ Hid (Tk.qq l e k0 = Tk.pushes ds (Tk.qq l e j)) /\ Hid (W32 ds) /\ Sc wr g A cap l pl j /\ Ga wr c ds /\ Tz wr b /\ Mv g w wr
theorem quoted_any (hC : Tk.Chr l) (hm : l.length <= 65000) (hk : k < l.length) (hq : Ru.g l k = 34 ∨ Ru.g l k = 39) (S : Sc w g A cap l pl k) :
 Calls Tryz.prog 89 #[.pointer (some ⟨g, 0, none⟩)] w (Stp g A cap l pl (Tk.qq l (Ru.g l k) (k + 1)).2.2 (tokV (Tk.qq l (Ru.g l k) (k + 1)).1 (Tk.str (Tk.qq l (Ru.g l k) (k + 1)).2.1) 0) w) := by
 have HC := Lib.hid hC
 have hgb := S.lt
 have S := S.alloc (.cells #[.int .i64 0, .string ⟨#[]⟩, .int .i64 0] 61)
 have M := (Mv.refl g w).alloc (.cells #[.int .i64 0, .string ⟨#[]⟩, .int .i64 0] 61)
 have Z := Tz.new w
 have S0 := S.lt
 have M0 : w.heap.size <= (w.alloc (.cells #[.int .i64 0, .string ⟨#[]⟩, .int .i64 0] 61)).heap.size := by simp
 have M1 : w.heap.size < (w.alloc (.cells #[.int .i64 0, .string ⟨#[]⟩, .int .i64 0] 61)).heap.size := by simp
 have T0 : Hid (∀ w', Sc w' g A cap l pl k -> Calls Tryz.prog 92 #[.pointer (some ⟨g, 0, none⟩)] w' (Stp g A cap l pl (k + 1) (.int .i32 (Ru.g l k)) w')) := Lib.hid fun w' h => by have := take_in (by omega) hk h; rwa [Tk.at_in hk] at this
 generalize Ru.g l k = e at *
 clear hC
 go_enter Tryz.func89, Tryz.ntmps89
 go_wp2_with (first | (go_at_call 154; ((with_reducible refine (gather_any _).mono ?_); rintro e w1 ⟨c, rfl, hc, G, b1⟩; have Z := Z.below b1 (by simp); have S := S.below b1 S.lt; have M := M.then_ b1 M.size; have hgc := Nat.lt_of_lt_of_le S0 hc; have hcs := Nat.le_trans M0 hc; have hbc := Nat.lt_of_lt_of_le M1 hc; clear b1)) | (go_at_call 92; (first | (with_reducible refine (T0.out _ S).mono ?_)); rintro e w1 ⟨rfl, S, m1⟩; have G := G.mv m1 hgc; have Z := Z.mv m1 hgb; have M := M.trans m1; clear m1))
 clear T0
 go_loopg [] l.length (fun r wr => QuoS g A cap l pl e (k + 1) c w.heap.size w r wr)
 case atStart => exact ⟨k + 1, [], by omega, by omega, by simp, Lib.hid rfl, Lib.hid (fun c hc => absurd hc (by simp)), S, G, Z, M⟩
 case round =>
  clear S G Z M
  obtain ⟨j, ds, hj, hr, hdl, HQ, HW, S, G, Z, M⟩ := hrel
  have hd : ds.length <= 65536 := by omega
  have C0 : Hid (∀ w', Sc w' g A cap l pl j -> Calls Tryz.prog 50 #[.pointer (some ⟨g, 0, none⟩), .int .i64 0] w' (Stp g A cap l pl j (.int .i32 (Tk.at' l j)) w')) := Lib.hid fun w' h => peek_any 0 0 rfl (by omega) hj (by omega) h
  have E0 : Hid (∀ w', Sc w' g A cap l pl j -> Calls Tryz.prog 91 #[.pointer (some ⟨g, 0, none⟩), .int .i64 0] w' (Stp g A cap l pl j (.bool (Tk.esc l j)) w')) := Lib.hid fun w' h => escapes_any 0 0 rfl HC.out.pos (by omega) hj (by omega) h
  have T0 : Hid (∀ w', Sc w' g A cap l pl j -> Calls Tryz.prog 92 #[.pointer (some ⟨g, 0, none⟩)] w' (Stp g A cap l pl (min (j + 1) l.length) (.int .i32 (Tk.at' l j)) w')) := Lib.hid fun w' h => take_any (by omega) hj h
  have P2 : Hid (∀ w', Sc w' g A cap l pl j -> Calls Tryz.prog 156 #[.pointer (some ⟨g, 0, none⟩), .int .i64 2] w' (Stp g A cap l pl (min (j + 2) l.length) (.tuple #[]) w')) := Lib.hid fun w' h => pass_any 2 2 rfl (by omega) hj (by omega) h
  by_cases hlt : j < l.length
  ·have hmin : min (j + 1) l.length = j + 1 := by omega
   by_cases hge : Ru.g l j = e
   ·have HE : Hid (Tk.qq l e (k + 1) = (6, ds, min (j + 1) l.length)) := Lib.hid (by rw [HQ.out, Tk.qq_end (fun h => h.2 hge)]; simp [Tk.pushes])
    rw [Tk.at_in hlt, hge] at C0 T0
    clear hge HQ E0 P2 hmin
    go_wp2_with (first | (go_at_call 50; (first | (with_reducible refine (C0.out _ S).mono ?_)); rintro e w1 ⟨rfl, S, m1⟩; have G := G.mv m1 hgc; have Z := Z.mv m1 hgb; have M := M.trans m1; clear m1) | (go_at_call 92; (first | (with_reducible refine (T0.out _ S).mono ?_)); rintro e w1 ⟨rfl, S, m1⟩; have G := G.mv m1 hgc; have Z := Z.mv m1 hgb; have M := M.trans m1; clear m1) | (go_at_call 193; ((with_reducible refine (told_any c ds _ hd HW.out G).mono ?_); rintro e w1 ⟨rfl, b1⟩; have S := S.below b1 S.lt; have M := M.then_ b1 M.size; have Z := Z.below b1 (lt_of_block Z); clear b1); obtain ⟨z0, z1, z2, f0, f1, f2⟩ := Z.cells))
    refine bodyPost_ret (v := tokV (6) (Tk.str ds) (0)) (by simp [results, tokV, Tryz.results89, go_sem, z0, z1, z2]) rfl ⟨by rw [HE.out], sc_stores (by rw [HE.out]; exact S) hgb _ _ _, tz_stores M (Nat.le_refl _) _ _ _⟩
   ·have hgb0 := HC.out.g hlt
    have n1 := Ru.eq_f hge
    have n2 := Ru.eq_f (show ¬ Ru.g l j = -1 by omega)
    have hst := Tk.qq_step (l := l) (e := e) ⟨hlt, hge⟩
    rw [Tk.at_in hlt] at C0 T0
    by_cases h10 : Ru.g l j = 10
    ·rw [if_pos h10] at hst
     have HE : Hid (Tk.qq l e (k + 1) = (7, ds, j)) := Lib.hid (by rw [HQ.out, hst]; simp [Tk.pushes])
     rw [h10] at C0 n1
     clear hge hgb0 n2 hst h10 HQ E0 P2 T0 hmin
     go_wp2_with (first | (go_at_call 50; (first | (with_reducible refine (C0.out _ S).mono ?_)); rintro e w1 ⟨rfl, S, m1⟩; have G := G.mv m1 hgc; have Z := Z.mv m1 hgb; have M := M.trans m1; clear m1) | (go_at_call 193; ((with_reducible refine (told_any c ds _ hd HW.out G).mono ?_); rintro e w1 ⟨rfl, b1⟩; have S := S.below b1 S.lt; have M := M.then_ b1 M.size; have Z := Z.below b1 (lt_of_block Z); clear b1); obtain ⟨z0, z1, z2, f0, f1, f2⟩ := Z.cells))
     refine bodyPost_ret (v := tokV (7) (Tk.str ds) (0)) (by simp [results, tokV, Tryz.results89, go_sem, z0, z1, z2]) rfl ⟨by rw [HE.out], sc_stores (by rw [HE.out]; exact S) hgb _ _ _, tz_stores M (Nat.le_refl _) _ _ _⟩
    ·rw [if_neg h10] at hst
     have n10 := Ru.eq_f h10
     cases he : Tk.esc l j
     ·rw [he, if_neg (by decide)] at hst
      rw [he] at E0
      by_cases h92 : Ru.g l j = 92
      ·rw [if_pos h92, Tk.qq_clamp (k := j + 2)] at hst
       have HE : Hid (Tk.qq l e (k + 1) = Tk.pushes ds (Tk.qq l e (min (j + 2) l.length))) := Lib.hid (by rw [HQ.out, hst])
       rw [h92] at C0 n1
       clear hge hgb0 n2 n10 hst h10 HQ T0 hmin he h92
       go_wp2_with (first | (go_at_call 50; (first | (with_reducible refine (C0.out _ S).mono ?_)); rintro e w1 ⟨rfl, S, m1⟩; have G := G.mv m1 hgc; have Z := Z.mv m1 hgb; have M := M.trans m1; clear m1) | (go_at_call 91; (first | (with_reducible refine (E0.out _ S).mono ?_)); rintro e w1 ⟨rfl, S, m1⟩; have G := G.mv m1 hgc; have Z := Z.mv m1 hgb; have M := M.trans m1; clear m1) | (go_at_call 156; (first | (with_reducible refine (P2.out _ S).mono ?_)); rintro e w1 ⟨rfl, S, m1⟩; have G := G.mv m1 hgc; have Z := Z.mv m1 hgb; have M := M.trans m1; clear m1))
       go_roundg (l.length - min (j + 2) l.length)
       case measure => omega
       case rel => exact ⟨min (j + 2) l.length, ds, by omega, by omega, by omega, HE, HW, S, G, Z, M⟩
      ·rw [if_neg h92] at hst
       have n92 := Ru.eq_f h92
       have HE : Hid (Tk.qq l e (k + 1) = Tk.pushes (ds ++ [Ru.g l j]) (Tk.qq l e (j + 1))) := Lib.hid (by rw [HQ.out, hst]; simp [Tk.pushes, Tk.push])
       have HW2 : Hid (W32 (ds ++ [Ru.g l j])) := Lib.hid (HW.out.add (by omega) (by omega))
       rw [hmin] at T0
       clear hge hgb0 hst h10 HQ P2 hmin he h92
       generalize Ru.g l j = y at *
       go_wp2_with (first | (go_at_call 50; (first | (with_reducible refine (C0.out _ S).mono ?_)); rintro e w1 ⟨rfl, S, m1⟩; have G := G.mv m1 hgc; have Z := Z.mv m1 hgb; have M := M.trans m1; clear m1) | (go_at_call 91; (first | (with_reducible refine (E0.out _ S).mono ?_)); rintro e w1 ⟨rfl, S, m1⟩; have G := G.mv m1 hgc; have Z := Z.mv m1 hgb; have M := M.trans m1; clear m1) | (go_at_call 92; (first | (with_reducible refine (T0.out _ S).mono ?_)); rintro e w1 ⟨rfl, S, m1⟩; have G := G.mv m1 hgc; have Z := Z.mv m1 hgb; have M := M.trans m1; clear m1) | (go_at_call 192; ((with_reducible refine (add_any' c ds y _ hd G).mono ?_); rintro e w1 ⟨rfl, G, b1⟩; have S := S.below b1 hgc; have M := M.then_ b1 hcs; have Z := Z.below b1 hbc; clear b1)))
       go_roundg (l.length - (j + 1))
       case measure => omega
       case rel => exact ⟨j + 1, ds ++ [y], by omega, by omega, by simp; omega, HE, HW2, S, G, Z, M⟩
     ·rw [if_pos he] at hst
      rw [he] at E0
      have hml := Tk.meant_le (Tk.esc_lt he).1
      have hmb := HC.out.meant_ he
      have HE : Hid (Tk.qq l e (k + 1) = Tk.pushes (ds ++ [(Tk.meant l j).1]) (Tk.qq l e (Tk.meant l j).2)) := Lib.hid (by rw [HQ.out, hst]; simp [Tk.pushes, Tk.push])
      have HW2 : Hid (W32 (ds ++ [(Tk.meant l j).1])) := Lib.hid (HW.out.add (by omega) (by omega))
      have X0 : Hid (∀ w', Sc w' g A cap l pl j -> Calls Tryz.prog 155 #[.pointer (some ⟨g, 0, none⟩)] w' (Stp g A cap l pl (Tk.meant l j).2 (.int .i32 (Tk.meant l j).1) w')) := Lib.hid fun w' h => escape_any (by omega) he h
      clear hge hgb0 hst h10 HQ P2 hmin he T0
      generalize Ru.g l j = y at *
      generalize Tk.meant l j = me at *
      obtain ⟨x, j2⟩ := me
      simp only at HE HW2 X0 hml hmb
      go_wp2_with (first | (go_at_call 50; (first | (with_reducible refine (C0.out _ S).mono ?_)); rintro e w1 ⟨rfl, S, m1⟩; have G := G.mv m1 hgc; have Z := Z.mv m1 hgb; have M := M.trans m1; clear m1) | (go_at_call 91; (first | (with_reducible refine (E0.out _ S).mono ?_)); rintro e w1 ⟨rfl, S, m1⟩; have G := G.mv m1 hgc; have Z := Z.mv m1 hgb; have M := M.trans m1; clear m1) | (go_at_call 155; (first | (with_reducible refine (X0.out _ S).mono ?_)); rintro e w1 ⟨rfl, S, m1⟩; have G := G.mv m1 hgc; have Z := Z.mv m1 hgb; have M := M.trans m1; clear m1) | (go_at_call 192; ((with_reducible refine (add_any' c ds x _ hd G).mono ?_); rintro e w1 ⟨rfl, G, b1⟩; have S := S.below b1 hgc; have M := M.then_ b1 hcs; have Z := Z.below b1 hbc; clear b1)))
      go_roundg (l.length - j2)
      case measure => omega
      case rel => exact ⟨j2, ds ++ [x], by omega, by omega, by simp; omega, HE, HW2, S, G, Z, M⟩
  ·have HE : Hid (Tk.qq l e (k + 1) = (6, ds, min (j + 1) l.length)) := Lib.hid (by rw [HQ.out, Tk.qq_end (fun h => hlt h.1)]; simp [Tk.pushes])
   have n1 : ((-1 : Int) == e) = false := Ru.eq_f (by omega)
   rw [Tk.at_out hlt] at C0 T0
   clear HQ E0 P2
   go_wp2_with (first | (go_at_call 50; (first | (with_reducible refine (C0.out _ S).mono ?_)); rintro e w1 ⟨rfl, S, m1⟩; have G := G.mv m1 hgc; have Z := Z.mv m1 hgb; have M := M.trans m1; clear m1) | (go_at_call 92; (first | (with_reducible refine (T0.out _ S).mono ?_)); rintro e w1 ⟨rfl, S, m1⟩; have G := G.mv m1 hgc; have Z := Z.mv m1 hgb; have M := M.trans m1; clear m1) | (go_at_call 193; ((with_reducible refine (told_any c ds _ hd HW.out G).mono ?_); rintro e w1 ⟨rfl, b1⟩; have S := S.below b1 S.lt; have M := M.then_ b1 M.size; have Z := Z.below b1 (lt_of_block Z); clear b1); obtain ⟨z0, z1, z2, f0, f1, f2⟩ := Z.cells))
   refine bodyPost_ret (v := tokV (6) (Tk.str ds) (0)) (by simp [results, tokV, Tryz.results89, go_sem, z0, z1, z2]) rfl ⟨by rw [HE.out], sc_stores (by rw [HE.out]; exact S) hgb _ _ _, tz_stores M (Nat.le_refl _) _ _ _⟩
end
section
variable {w : World} {g cap k : Nat} {A : Option Addr} {l : List Int} {pl : ByteArray}
theorem pos_of (S : Sc w g A cap l pl k) : posOf w g = k := by unfold posOf; rw [S.c1]; simp
def NamJ (g : Nat) (A : Option Addr) (cap : Nat) (l : List Int) (pl : ByteArray) (k : Nat) (w : World) (a' : Act) (wr : World) : Prop :=
 ∃ (c j : Nat) (ds : List Int) (u5 u6 u7 u8 u9 u10 u11 u12 u13 u14 u15 u16 u17 u18 u19 u20 u21 u22 u23 u24 u25 u26 u27 : Value), a' = { tmps := #[.pointer (some ⟨g, 0, none⟩), undef, .string ⟨#[]⟩, addF c, toldF c, u5, u6, u7, u8, u9, u10, u11, u12, u13, u14, u15, u16, u17, u18, u19, u20, u21, u22, u23, u24, u25, u26, u27], defers := [] } /\ g < c /\ w.heap.size <= c /\ j <= l.length /\ ds.length <= j /\ Hid (Tk.name l k = (ds ++ (Tk.name l j).1, (Tk.name l j).2)) /\ Hid (W32 ds) /\ Sc wr g A cap l pl j /\ Ga wr c ds /\ Mv g w wr
theorem name_any (hC : Tk.Chr l) (hm : l.length <= 65000) (hk : k <= l.length) (S : Sc w g A cap l pl k) :
 Calls Tryz.prog 93 #[.pointer (some ⟨g, 0, none⟩)] w (Stp g A cap l pl (Tk.name l k).2 (.string (Tk.str (Tk.name l k).1)) w) := by
 have HC := Lib.hid hC
 have S0 := S.lt
 have M0 := Nat.le_refl w.heap.size
 have M := Mv.refl g w
 clear hC
 go_enter Tryz.func93, Tryz.ntmps93
 go_wp2_with fail
 refine wp_scope_jumps 0 (fun a' wr => NamJ g A cap l pl k w a' wr) (fun _ wr => l.length - posOf wr g) rfl ?_ ?_
 ·go_wp2_with (go_at_call 154; ((with_reducible refine (gather_any _).mono ?_); rintro e w1 ⟨c, rfl, hc, G, b1⟩; have S := S.below b1 S.lt; have M := M.then_ b1 M.size; have hgc := Nat.lt_of_lt_of_le S0 hc; have hcs := Nat.le_trans M0 hc; clear b1))
  go_step3
  obtain ⟨ds, hds0⟩ : ∃ ds : List Int, ds = [] := ⟨[], rfl⟩
  rw [<- hds0] at G
  have HNM : Hid (Tk.name l k = (ds ++ (Tk.name l k).1, (Tk.name l k).2)) := Lib.hid (by rw [hds0]; rfl)
  have HW : Hid (W32 ds) := Lib.hid (by rw [hds0]; exact fun c hc => absurd hc (by simp))
  have hdl : ds.length <= k := by rw [hds0]; simp
  clear hds0
  obtain ⟨j, hj0⟩ : ∃ j : Nat, j = k := ⟨k, rfl⟩
  rw [<- hj0] at S hdl
  have hj : j <= l.length := by omega
  rw [show (Tk.name l k = (ds ++ (Tk.name l k).1, (Tk.name l k).2)) = (Tk.name l k = (ds ++ (Tk.name l j).1, (Tk.name l j).2)) by rw [hj0]] at HNM
  clear hj0
  have hd : ds.length <= 65536 := by omega
  have E0 : Hid (∀ w', Sc w' g A cap l pl j -> Calls Tryz.prog 91 #[.pointer (some ⟨g, 0, none⟩), .int .i64 0] w' (Stp g A cap l pl j (.bool (Tk.esc l j)) w')) := Lib.hid fun w' h => escapes_any 0 0 rfl HC.out.pos (by omega) hj (by omega) h
  have C0 : Hid (∀ w', Sc w' g A cap l pl j -> Calls Tryz.prog 50 #[.pointer (some ⟨g, 0, none⟩), .int .i64 0] w' (Stp g A cap l pl j (.int .i32 (Tk.at' l j)) w')) := Lib.hid fun w' h => peek_any 0 0 rfl (by omega) hj (by omega) h
  have hin : Tk.inN l j = (Tk.esc l j || Ru.witB (Tk.at' l j)) := rfl
  cases he : Tk.esc l j
  ·rw [he] at E0 hin
   cases hw : Ru.witB (Tk.at' l j)
   ·rw [hw] at hin
    have HE : Hid (Tk.name l k = (ds, j)) := Lib.hid (by rw [HNM.out, Tk.name_no hin, List.append_nil])
    clear hin HNM he
    generalize Tk.at' l j = a at *
    go_wp2_with (first | (go_at_call 91; (first | (with_reducible refine (E0.out _ S).mono ?_)); rintro e w1 ⟨rfl, S, m1⟩; have G := G.mv m1 hgc; have M := M.trans m1; clear m1) | (go_at_call 50; (first | (with_reducible refine (C0.out _ S).mono ?_)); rintro e w1 ⟨rfl, S, m1⟩; have G := G.mv m1 hgc; have M := M.trans m1; clear m1) | (go_at_call 90; ((with_reducible refine (within_any _ _).mono ?_); rintro e w1 ⟨rfl, rfl⟩)) | (go_at_call 193; ((with_reducible refine (told_any c ds _ hd HW.out G).mono ?_); rintro e w1 ⟨rfl, b1⟩; have S := S.below b1 S.lt; have M := M.then_ b1 M.size; clear b1)))
    simp only [Exit.jump]
    go_ret
    exact ⟨by rw [HE.out]; rfl, by rw [HE.out]; exact S, M⟩
   ·rw [hw] at hin
    have hlt := Tk.inN_lt hin
    have h92 : Tk.at' l j ≠ 92 := fun e => by rw [e] at hw; exact absurd hw (by decide)
    have HE : Hid (Tk.name l k = ((ds ++ [Tk.at' l j]) ++ (Tk.name l (j + 1)).1, (Tk.name l (j + 1)).2)) := Lib.hid (by rw [HNM.out, Tk.name_yes hin, List.append_assoc, show Tk.oneN l j = (Tk.at' l j, j + 1) by unfold Tk.oneN; rw [if_neg h92]]; rfl)
    have hab := HC.out.at_ j
    have HW2 : Hid (W32 (ds ++ [Tk.at' l j])) := Lib.hid (HW.out.add (by omega) (by omega))
    have T0 : Hid (∀ w', Sc w' g A cap l pl j -> Calls Tryz.prog 92 #[.pointer (some ⟨g, 0, none⟩)] w' (Stp g A cap l pl (j + 1) (.int .i32 (Tk.at' l j)) w')) := Lib.hid fun w' h => take_in (by omega) hlt h
    clear hin HNM he h92
    generalize Tk.at' l j = a at *
    go_wp2_with (first | (go_at_call 91; (first | (with_reducible refine (E0.out _ S).mono ?_)); rintro e w1 ⟨rfl, S, m1⟩; have G := G.mv m1 hgc; have M := M.trans m1; clear m1) | (go_at_call 50; (first | (with_reducible refine (C0.out _ S).mono ?_)); rintro e w1 ⟨rfl, S, m1⟩; have G := G.mv m1 hgc; have M := M.trans m1; clear m1) | (go_at_call 90; ((with_reducible refine (within_any _ _).mono ?_); rintro e w1 ⟨rfl, rfl⟩)) | (go_at_call 92; (first | (with_reducible refine (T0.out _ S).mono ?_)); rintro e w1 ⟨rfl, S, m1⟩; have G := G.mv m1 hgc; have M := M.trans m1; clear m1) | (go_at_call 192; ((with_reducible refine (add_any' c ds a _ hd G).mono ?_); rintro e w1 ⟨rfl, G, b1⟩; have S := S.below b1 hgc; have M := M.then_ b1 hcs; clear b1)))
    go_step3
    exact ⟨rfl, ⟨c, j + 1, ds ++ [a], _, _, _, _, _, _, _, _, _, _, _, _, _, _, _, _, _, _, _, _, _, _, _, rfl, hgc, hcs, by omega, by simp; omega, HE, HW2, S, G, M⟩⟩
  ·rw [he] at E0 hin
   have hin' : Tk.inN l j = true := hin
   have hl2 := (Tk.esc_lt he)
   have hml := Tk.meant_le hl2.1
   have hmb := HC.out.meant_ he
   have HE : Hid (Tk.name l k = ((ds ++ [(Tk.meant l j).1]) ++ (Tk.name l (Tk.meant l j).2).1, (Tk.name l (Tk.meant l j).2).2)) := Lib.hid (by rw [HNM.out, Tk.name_yes hin', List.append_assoc, show Tk.oneN l j = Tk.meant l j by unfold Tk.oneN; rw [if_pos hl2.2.1]]; rfl)
   have HW2 : Hid (W32 (ds ++ [(Tk.meant l j).1])) := Lib.hid (HW.out.add (by omega) (by omega))
   have X0 : Hid (∀ w', Sc w' g A cap l pl j -> Calls Tryz.prog 155 #[.pointer (some ⟨g, 0, none⟩)] w' (Stp g A cap l pl (Tk.meant l j).2 (.int .i32 (Tk.meant l j).1) w')) := Lib.hid fun w' h => escape_any (by omega) he h
   clear hin hin' HNM he hl2 C0
   generalize Tk.meant l j = me at *
   obtain ⟨y, j2⟩ := me
   simp only at HE HW2 X0 hml hmb
   go_wp2_with (first | (go_at_call 91; (first | (with_reducible refine (E0.out _ S).mono ?_)); rintro e w1 ⟨rfl, S, m1⟩; have G := G.mv m1 hgc; have M := M.trans m1; clear m1) | (go_at_call 155; (first | (with_reducible refine (X0.out _ S).mono ?_)); rintro e w1 ⟨rfl, S, m1⟩; have G := G.mv m1 hgc; have M := M.trans m1; clear m1) | (go_at_call 192; ((with_reducible refine (add_any' c ds y _ hd G).mono ?_); rintro e w1 ⟨rfl, G, b1⟩; have S := S.below b1 hgc; have M := M.then_ b1 hcs; clear b1)))
   go_step3
   exact ⟨rfl, ⟨c, j2, ds ++ [y], _, _, _, _, _, _, _, _, _, _, _, _, _, _, _, _, _, _, _, _, _, _, _, rfl, hgc, hcs, by omega, by simp; omega, HE, HW2, S, G, M⟩⟩
 ·rintro a' wr ⟨c, j, ds, u5, u6, u7, u8, u9, u10, u11, u12, u13, u14, u15, u16, u17, u18, u19, u20, u21, u22, u23, u24, u25, u26, u27, rfl, hgc, hcs, hj, hdl, HNM, HW, S, G, M⟩
  have hpos := pos_of S
  rw [hpos]
  clear hpos
  have hd : ds.length <= 65536 := by omega
  have E0 : Hid (∀ w', Sc w' g A cap l pl j -> Calls Tryz.prog 91 #[.pointer (some ⟨g, 0, none⟩), .int .i64 0] w' (Stp g A cap l pl j (.bool (Tk.esc l j)) w')) := Lib.hid fun w' h => escapes_any 0 0 rfl HC.out.pos (by omega) hj (by omega) h
  have C0 : Hid (∀ w', Sc w' g A cap l pl j -> Calls Tryz.prog 50 #[.pointer (some ⟨g, 0, none⟩), .int .i64 0] w' (Stp g A cap l pl j (.int .i32 (Tk.at' l j)) w')) := Lib.hid fun w' h => peek_any 0 0 rfl (by omega) hj (by omega) h
  have hin : Tk.inN l j = (Tk.esc l j || Ru.witB (Tk.at' l j)) := rfl
  cases he : Tk.esc l j
  ·rw [he] at E0 hin
   cases hw : Ru.witB (Tk.at' l j)
   ·rw [hw] at hin
    have HE : Hid (Tk.name l k = (ds, j)) := Lib.hid (by rw [HNM.out, Tk.name_no hin, List.append_nil])
    clear hin HNM he
    generalize Tk.at' l j = a at *
    go_wp2_with (first | (go_at_call 91; (first | (with_reducible refine (E0.out _ S).mono ?_)); rintro e w1 ⟨rfl, S, m1⟩; have G := G.mv m1 hgc; have M := M.trans m1; clear m1) | (go_at_call 50; (first | (with_reducible refine (C0.out _ S).mono ?_)); rintro e w1 ⟨rfl, S, m1⟩; have G := G.mv m1 hgc; have M := M.trans m1; clear m1) | (go_at_call 90; ((with_reducible refine (within_any _ _).mono ?_); rintro e w1 ⟨rfl, rfl⟩)) | (go_at_call 193; ((with_reducible refine (told_any c ds _ hd HW.out G).mono ?_); rintro e w1 ⟨rfl, b1⟩; have S := S.below b1 S.lt; have M := M.then_ b1 M.size; clear b1)))
    simp only [Exit.jump]
    go_ret
    exact ⟨by rw [HE.out]; rfl, by rw [HE.out]; exact S, M⟩
   ·rw [hw] at hin
    have hlt := Tk.inN_lt hin
    have h92 : Tk.at' l j ≠ 92 := fun e => by rw [e] at hw; exact absurd hw (by decide)
    have HE : Hid (Tk.name l k = ((ds ++ [Tk.at' l j]) ++ (Tk.name l (j + 1)).1, (Tk.name l (j + 1)).2)) := Lib.hid (by rw [HNM.out, Tk.name_yes hin, List.append_assoc, show Tk.oneN l j = (Tk.at' l j, j + 1) by unfold Tk.oneN; rw [if_neg h92]]; rfl)
    have hab := HC.out.at_ j
    have HW2 : Hid (W32 (ds ++ [Tk.at' l j])) := Lib.hid (HW.out.add (by omega) (by omega))
    have T0 : Hid (∀ w', Sc w' g A cap l pl j -> Calls Tryz.prog 92 #[.pointer (some ⟨g, 0, none⟩)] w' (Stp g A cap l pl (j + 1) (.int .i32 (Tk.at' l j)) w')) := Lib.hid fun w' h => take_in (by omega) hlt h
    clear hin HNM he h92
    generalize Tk.at' l j = a at *
    go_wp2_with (first | (go_at_call 91; (first | (with_reducible refine (E0.out _ S).mono ?_)); rintro e w1 ⟨rfl, S, m1⟩; have G := G.mv m1 hgc; have M := M.trans m1; clear m1) | (go_at_call 50; (first | (with_reducible refine (C0.out _ S).mono ?_)); rintro e w1 ⟨rfl, S, m1⟩; have G := G.mv m1 hgc; have M := M.trans m1; clear m1) | (go_at_call 90; ((with_reducible refine (within_any _ _).mono ?_); rintro e w1 ⟨rfl, rfl⟩)) | (go_at_call 92; (first | (with_reducible refine (T0.out _ S).mono ?_)); rintro e w1 ⟨rfl, S, m1⟩; have G := G.mv m1 hgc; have M := M.trans m1; clear m1) | (go_at_call 192; ((with_reducible refine (add_any' c ds a _ hd G).mono ?_); rintro e w1 ⟨rfl, G, b1⟩; have S := S.below b1 hgc; have M := M.then_ b1 hcs; clear b1)))
    go_step3
    exact ⟨rfl, ⟨c, j + 1, ds ++ [a], _, _, _, _, _, _, _, _, _, _, _, _, _, _, _, _, _, _, _, _, _, _, _, rfl, hgc, hcs, by omega, by simp; omega, HE, HW2, S, G, M⟩, by rw [pos_of S]; omega⟩
  ·rw [he] at E0 hin
   have hin' : Tk.inN l j = true := hin
   have hl2 := (Tk.esc_lt he)
   have hml := Tk.meant_le hl2.1
   have hmb := HC.out.meant_ he
   have HE : Hid (Tk.name l k = ((ds ++ [(Tk.meant l j).1]) ++ (Tk.name l (Tk.meant l j).2).1, (Tk.name l (Tk.meant l j).2).2)) := Lib.hid (by rw [HNM.out, Tk.name_yes hin', List.append_assoc, show Tk.oneN l j = Tk.meant l j by unfold Tk.oneN; rw [if_pos hl2.2.1]]; rfl)
   have HW2 : Hid (W32 (ds ++ [(Tk.meant l j).1])) := Lib.hid (HW.out.add (by omega) (by omega))
   have X0 : Hid (∀ w', Sc w' g A cap l pl j -> Calls Tryz.prog 155 #[.pointer (some ⟨g, 0, none⟩)] w' (Stp g A cap l pl (Tk.meant l j).2 (.int .i32 (Tk.meant l j).1) w')) := Lib.hid fun w' h => escape_any (by omega) he h
   clear hin hin' HNM he hl2 C0
   generalize Tk.meant l j = me at *
   obtain ⟨y, j2⟩ := me
   simp only at HE HW2 X0 hml hmb
   go_wp2_with (first | (go_at_call 91; (first | (with_reducible refine (E0.out _ S).mono ?_)); rintro e w1 ⟨rfl, S, m1⟩; have G := G.mv m1 hgc; have M := M.trans m1; clear m1) | (go_at_call 155; (first | (with_reducible refine (X0.out _ S).mono ?_)); rintro e w1 ⟨rfl, S, m1⟩; have G := G.mv m1 hgc; have M := M.trans m1; clear m1) | (go_at_call 192; ((with_reducible refine (add_any' c ds y _ hd G).mono ?_); rintro e w1 ⟨rfl, G, b1⟩; have S := S.below b1 hgc; have M := M.then_ b1 hcs; clear b1)))
   go_step3
   exact ⟨rfl, ⟨c, j2, ds ++ [y], _, _, _, _, _, _, _, _, _, _, _, _, _, _, _, _, _, _, _, _, _, _, _, rfl, hgc, hcs, by omega, by simp; omega, HE, HW2, S, G, M⟩, by rw [pos_of S]; omega⟩
end
theorem afterSign_any (s : ByteArray) (a : Int) (w : World) (hs : s.size <= maxLen) (h0 : 0 <= a) (h1 : a <= s.size) :
 Calls Tryz.prog 216 #[.string s, .int .i64 a] w fun e w' => e = .returned (.int .i64 (Fx.sgn s.data.toList a.toNat : Nat)) /\ w = w' := by
 unfold maxLen at hs
 obtain ⟨k, rfl⟩ := Int.eq_ofNat_of_zero_le h0
 rw [Int.toNat_natCast]
 by_cases hk : k < s.size
 ·have hg := Fx.get_at s k hk
  by_cases h43 : s[k] = 43
  ·have hb : ((s[k].toNat : Int) == 43) = true := by rw [h43]; rfl
   have H := Lib.hid hg; clear hg
   have H43 := Lib.hid h43; clear h43
   go_enter Tryz.func216, Tryz.ntmps216
   go_wp2
   go_ret
   exact ⟨ret_int (by rw [Fx.sgn, H.out, H43.out]; simp), rfl⟩
  ·have hb : ((s[k].toNat : Int) == 43) = false := by
    rw [Bool.eq_false_iff]; intro h; exact h43 ((byte_eq (by decide)).1 h)
   by_cases h45 : s[k] = 45
   ·have hc : ((s[k].toNat : Int) == 45) = true := by rw [h45]; rfl
    have H := Lib.hid hg; clear hg
    have H45 := Lib.hid h45; clear h45 h43
    go_enter Tryz.func216, Tryz.ntmps216
    go_wp2
    go_ret
    exact ⟨ret_int (by rw [Fx.sgn, H.out, H45.out]; simp), rfl⟩
   ·have hc : ((s[k].toNat : Int) == 45) = false := by
     rw [Bool.eq_false_iff]; intro h; exact h45 ((byte_eq (by decide)).1 h)
    have H := Lib.hid hg; clear hg
    have H43 := Lib.hid h43; clear h43
    have H45 := Lib.hid h45; clear h45
    go_enter Tryz.func216, Tryz.ntmps216
    go_wp2
    go_ret
    exact ⟨ret_int (by rw [Fx.sgn, H.out, if_neg (by have := H43.out; have := H45.out; simp [*])]), rfl⟩
 ·have hg := Fx.get_past s k (by omega)
  have H := Lib.hid hg; clear hg
  go_enter Tryz.func216, Tryz.ntmps216
  go_wp2
  go_ret
  exact ⟨ret_int (by rw [Fx.sgn, H.out]; simp), rfl⟩
theorem afterDigits_any (s : ByteArray) (a : Int) (w : World) (hs : s.size <= maxLen) (h0 : 0 <= a) (h1 : a <= s.size) :
 Calls Tryz.prog 217 #[.string s, .int .i64 a] w fun e w' => e = .returned (.int .i64 (Fx.dig s.data.toList a.toNat : Nat)) /\ w = w' := by
 unfold maxLen at hs
 obtain ⟨j, rfl⟩ := Int.eq_ofNat_of_zero_le h0
 rw [Int.toNat_natCast]
 go_enter Tryz.func217, Tryz.ntmps217
 go_wp2
 go_loop [1] (fun i => ∃ k : Nat, k <= s.size /\ i = .int .i64 k /\ Hid (Fx.dig s.data.toList j = Fx.dig s.data.toList k)) (fun i => s.size - (intOf i).toNat)
 case atStart => exact ⟨j, by omega, rfl, Lib.hid rfl⟩
 case round =>
  obtain ⟨k, hk, rfl, H⟩ := hrel
  by_cases hlt : k < s.size
  ·have G := Lib.hid (Fx.get_at s k hlt)
   by_cases d1 : 48 <= (s[k].toNat : Int)
   ·by_cases d2 : (s[k].toNat : Int) <= 57
    ·have Y := Lib.hid (Fx.isD_of d1 d2)
     go_wp2
     go_round
     case rel => exact ⟨k + 1, by omega, by go_num, Lib.hid (by rw [H.out]; exact Fx.dig_yes _ _ (by rw [G.out]; exact Y.out))⟩
     case measure => simp [intOf]; omega
    ·have Y := Lib.hid (Fx.isD_not (Or.inr (Int.not_le.1 d2)))
     go_wp2
     go_ret
     exact ⟨ret_int (by rw [H.out, Fx.dig_no _ _ (by rw [G.out]; exact Y.out)]), rfl⟩
   ·have Y := Lib.hid (Fx.isD_not (Or.inl (Int.not_le.1 d1)))
    go_wp2
    go_ret
    exact ⟨ret_int (by rw [H.out, Fx.dig_no _ _ (by rw [G.out]; exact Y.out)]), rfl⟩
  ·have G := Lib.hid (Fx.get_past s k (by omega))
   go_wp2
   go_ret
   exact ⟨ret_int (by rw [H.out, Fx.dig_no _ _ (by rw [G.out]; exact Fx.isD_zero)]), rfl⟩
end Go.Proofs.YtkcabpjfgbghjaaGreatDoor
