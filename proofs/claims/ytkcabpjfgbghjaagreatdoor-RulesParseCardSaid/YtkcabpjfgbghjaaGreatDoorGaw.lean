/-
  The walk of the scanner's next: at-words, names, single characters.
-/
import Derived.Test.YtkcabpjfgbghjaaGreatDoorGau
import Derived.Test.YtkcabpjfgbghjaaGreatDoorGav
import Derived.Test.YtkcabpjfgbghjaaGreatDoorGat
import Derived.Test.YtkcabpjfgbghjaaGreatDoorGac
import Derived.OwnWalk
import Derived.Test.YtkcabpjfgbghjaaGreatDoorGag
import Derived.Test.YtkcabpjfgbghjaaGreatDoorGao
import Derived.Test.YtkcabpjfgbghjaaGreatDoorGaq
import Derived.Test.YtkcabpjfgbghjaaGreatDoorGak
import Derived.Test.YtkcabpjfgbghjaaGreatDoorGar
import Derived.Lib.SlBytesConst
set_option maxHeartbeats 16000000
set_option maxRecDepth 100000
namespace Go.Proofs.YtkcabpjfgbghjaaGreatDoor
open Go.RowKit
section
variable {w : World} {g cap k : Nat} {A : Option Addr} {l : List Int} {pl : ByteArray}
theorem next_atkey (hC : Tk.Chr l) (hm : l.length <= 65000) (hk : k < l.length) (hp : pl.data.toList = l.map Tk.p8) (hw : Ru.whiB (Ru.g l k) = false) (ho : Tk.opn l k = false) (hq : Ru.g l k = 64) (hr : Tk.begs l (k + 1) = true) (S : Sc w g A cap l pl k) :
 Calls Tryz.prog 51 #[.pointer (some ⟨g, 0, none⟩)] w (Stp g A cap l pl (Tk.nxt l k).2.2.2 (NxtV (Tk.nxt l k)) w) := by
 have hgb := S.lt
 have S := S.alloc (.cells #[.int .i64 0, .string ⟨#[]⟩, .int .i64 0] 61)
 have M := (Mv.refl g w).alloc (.cells #[.int .i64 0, .string ⟨#[]⟩, .int .i64 0] 61)
 have Z := Tz.new w
 have hg := hC.g hk
 have C0 : Hid (∀ w', Sc w' g A cap l pl k -> Calls Tryz.prog 50 #[.pointer (some ⟨g, 0, none⟩), .int .i64 0] w' (Stp g A cap l pl k (.int .i32 (Ru.g l k)) w')) := Lib.hid fun w' h => by have := peek_any 0 0 rfl (show l.length <= 65536 by omega) (Nat.le_of_lt hk) (by omega) h; rwa [show k + 0 = k from rfl, Tk.at_in hk] at this
 have O0 : Hid (∀ w', Sc w' g A cap l pl k -> Calls Tryz.prog 87 #[.pointer (some ⟨g, 0, none⟩)] w' (Stp g A cap l pl k (.bool false) w')) := Lib.hid fun w' h => by have := opens_any (show l.length <= 65536 by omega) (Nat.le_of_lt hk) h; rwa [ho] at this
 have T0 : Hid (∀ w', Sc w' g A cap l pl k -> Calls Tryz.prog 92 #[.pointer (some ⟨g, 0, none⟩)] w' (Stp g A cap l pl (k + 1) (.int .i32 (Ru.g l k)) w')) := Lib.hid fun w' h => by have := take_in (show l.length <= 65536 by omega) hk h; rwa [Tk.at_in hk] at this
 have D0 : Hid (∀ w', Sc w' g A cap l pl k -> Calls Tryz.prog 94 #[.pointer (some ⟨g, 0, none⟩)] w' (Stp g A cap l pl k (.int .i64 (Tk.nlen l k : Nat)) w')) := Lib.hid fun w' h => decimal_any hm (Nat.le_of_lt hk) hp h
 have N1 : Hid (∀ w', Sc w' g A cap l pl k -> Calls Tryz.prog 96 #[.pointer (some ⟨g, 0, none⟩), .int .i64 1] w' (Stp g A cap l pl k (.bool (Tk.begs l (k + 1))) w')) := Lib.hid fun w' h => names_any 1 1 rfl hC.pos (by omega) (Nat.le_of_lt hk) (by omega) h
 have X1 : Hid (∀ w', Sc w' g A cap l pl (k + 1) -> Calls Tryz.prog 93 #[.pointer (some ⟨g, 0, none⟩)] w' (Stp g A cap l pl (Tk.name l (k + 1)).2 (.string (Tk.str (Tk.name l (k + 1)).1)) w')) := Lib.hid fun w' h => name_any hC hm hk h
 have h0 : Tk.nlen l k = 0 := Nat.eq_zero_of_not_pos (fun h => by have := (Tk.nlen_num h).2; rw [hq] at this; exact absurd this (by decide))
 have HE : Hid (Tk.nxt l k = (4, Tk.str (Tk.name l (k + 1)).1, 0, (Tk.name l (k + 1)).2)) := Lib.hid (by
  unfold Tk.nxt Tk.rest
  rw [if_neg (by omega), if_neg (by omega), if_neg (by omega), if_pos ⟨hq, hr⟩])
 rw [h0] at D0
 rw [hr] at N1
 clear hp ho hC hg h0 hr
 generalize Ru.g l k = c at *
 generalize Tk.name l (k + 1) = nm at *
 obtain ⟨ds, j2⟩ := nm
 simp only at X1 HE
 subst hq
 go_enter Tryz.func51, Tryz.ntmps51
 go_wp2_with (first | (go_at_call 50; (first | (with_reducible refine (C0.out _ S).mono ?_)); rintro e w1 ⟨rfl, S, m1⟩; have Z := Z.mv m1 hgb; have M := M.trans m1; clear m1; obtain ⟨z0, z1, z2, f0, f1, f2⟩ := Z.cells) | (go_at_call 86; ((with_reducible refine (white_any _ _).mono ?_); rintro e w1 ⟨rfl, rfl⟩)) | (go_at_call 87; (first | (with_reducible refine (O0.out _ S).mono ?_)); rintro e w1 ⟨rfl, S, m1⟩; have Z := Z.mv m1 hgb; have M := M.trans m1; clear m1; obtain ⟨z0, z1, z2, f0, f1, f2⟩ := Z.cells) | (go_at_call 94; (first | (with_reducible refine (D0.out _ S).mono ?_)); rintro e w1 ⟨rfl, S, m1⟩; have Z := Z.mv m1 hgb; have M := M.trans m1; clear m1; obtain ⟨z0, z1, z2, f0, f1, f2⟩ := Z.cells) | (go_at_call 96; (first | (with_reducible refine (N1.out _ S).mono ?_)); rintro e w1 ⟨rfl, S, m1⟩; have Z := Z.mv m1 hgb; have M := M.trans m1; clear m1; obtain ⟨z0, z1, z2, f0, f1, f2⟩ := Z.cells) | (go_at_call 92; (first | (with_reducible refine (T0.out _ S).mono ?_)); rintro e w1 ⟨rfl, S, m1⟩; have Z := Z.mv m1 hgb; have M := M.trans m1; clear m1; obtain ⟨z0, z1, z2, f0, f1, f2⟩ := Z.cells) | (go_at_call 93; (first | (with_reducible refine (X1.out _ S).mono ?_)); rintro e w1 ⟨rfl, S, m1⟩; have Z := Z.mv m1 hgb; have M := M.trans m1; clear m1; obtain ⟨z0, z1, z2, f0, f1, f2⟩ := Z.cells))
 refine bodyPost_ret (v := .tuple #[tokV (4) (Tk.str ds) (0), .bool true]) (by simp [results, tokV, Tryz.results51, go_sem, z0, z1, z2]) rfl ⟨by rw [HE.out]; rfl, sc_stores (by rw [HE.out]; exact S) hgb _ _ _, tz_stores M (Nat.le_refl _) _ _ _⟩
theorem next_word (hC : Tk.Chr l) (hm : l.length <= 65000) (hk : k < l.length) (hp : pl.data.toList = l.map Tk.p8) (hw : Ru.whiB (Ru.g l k) = false) (ho : Tk.opn l k = false) (hpast : Tk.Past l k) (h64 : Ru.g l k = 64 -> Tk.begs l (k + 1) = false) (hr : Tk.begs l k = true) (S : Sc w g A cap l pl k) :
 Calls Tryz.prog 51 #[.pointer (some ⟨g, 0, none⟩)] w (Stp g A cap l pl (Tk.nxt l k).2.2.2 (NxtV (Tk.nxt l k)) w) := by
 have hgb := S.lt
 have S := S.alloc (.cells #[.int .i64 0, .string ⟨#[]⟩, .int .i64 0] 61)
 have M := (Mv.refl g w).alloc (.cells #[.int .i64 0, .string ⟨#[]⟩, .int .i64 0] 61)
 have Z := Tz.new w
 have hg := hC.g hk
 have C0 : Hid (∀ w', Sc w' g A cap l pl k -> Calls Tryz.prog 50 #[.pointer (some ⟨g, 0, none⟩), .int .i64 0] w' (Stp g A cap l pl k (.int .i32 (Ru.g l k)) w')) := Lib.hid fun w' h => by have := peek_any 0 0 rfl (show l.length <= 65536 by omega) (Nat.le_of_lt hk) (by omega) h; rwa [show k + 0 = k from rfl, Tk.at_in hk] at this
 have O0 : Hid (∀ w', Sc w' g A cap l pl k -> Calls Tryz.prog 87 #[.pointer (some ⟨g, 0, none⟩)] w' (Stp g A cap l pl k (.bool false) w')) := Lib.hid fun w' h => by have := opens_any (show l.length <= 65536 by omega) (Nat.le_of_lt hk) h; rwa [ho] at this
 have T0 : Hid (∀ w', Sc w' g A cap l pl k -> Calls Tryz.prog 92 #[.pointer (some ⟨g, 0, none⟩)] w' (Stp g A cap l pl (k + 1) (.int .i32 (Ru.g l k)) w')) := Lib.hid fun w' h => by have := take_in (show l.length <= 65536 by omega) hk h; rwa [Tk.at_in hk] at this
 have D0 : Hid (∀ w', Sc w' g A cap l pl k -> Calls Tryz.prog 94 #[.pointer (some ⟨g, 0, none⟩)] w' (Stp g A cap l pl k (.int .i64 (Tk.nlen l k : Nat)) w')) := Lib.hid fun w' h => decimal_any hm (Nat.le_of_lt hk) hp h
 have N1 : Hid (∀ w', Sc w' g A cap l pl k -> Calls Tryz.prog 96 #[.pointer (some ⟨g, 0, none⟩), .int .i64 1] w' (Stp g A cap l pl k (.bool (Tk.begs l (k + 1))) w')) := Lib.hid fun w' h => names_any 1 1 rfl hC.pos (by omega) (Nat.le_of_lt hk) (by omega) h
 have N0 : Hid (∀ w', Sc w' g A cap l pl k -> Calls Tryz.prog 96 #[.pointer (some ⟨g, 0, none⟩), .int .i64 0] w' (Stp g A cap l pl k (.bool (Tk.begs l k)) w')) := Lib.hid fun w' h => names_any 0 0 rfl hC.pos (by omega) (Nat.le_of_lt hk) (by omega) h
 have Q0 : Hid (∀ w', Sc w' g A cap l pl k -> Calls Tryz.prog 97 #[.pointer (some ⟨g, 0, none⟩)] w' (Stp g A cap l pl (Tk.wrd l k).2 (tokV (Tk.wrd l k).1 (Tk.str (Tk.name l k).1) 0) w')) := Lib.hid fun w' h => word_any hC hm (Nat.le_of_lt hk) h
 have h0 : Tk.nlen l k = 0 := Nat.eq_zero_of_not_pos (fun h => by have := hpast.2.2.2 (Tk.nlen_num h).2; omega)
 have HE := Lib.hid (Tk.nxt_word hpast h64 hr)
 have h35 : Ru.g l k ≠ 35 := fun h => by have := Tk.begs_not hk (.inl h); rw [this] at hr; cases hr
 have n1 := Ru.eq_f hpast.1
 have n2 := Ru.eq_f hpast.2.1
 have n3 := Ru.eq_f h35
 rw [h0] at D0
 rw [hr] at N0
 clear hp ho hC hg h0 hr T0 hpast h35
 generalize Tk.begs l (k + 1) = b1 at *
 generalize Ru.g l k = c at *
 generalize Tk.wrd l k = wd at *
 generalize Tk.str (Tk.name l k).1 = tx at *
 obtain ⟨kd, j2⟩ := wd
 simp only at Q0 HE
 by_cases c64 : c = 64
 ·have hb1 := h64 c64
  subst c64
  subst hb1
  clear h64
  go_enter Tryz.func51, Tryz.ntmps51
  go_wp2_with (first | (go_at_call 50; (first | (with_reducible refine (C0.out _ S).mono ?_)); rintro e w1 ⟨rfl, S, m1⟩; have Z := Z.mv m1 hgb; have M := M.trans m1; clear m1; obtain ⟨z0, z1, z2, f0, f1, f2⟩ := Z.cells) | (go_at_call 86; ((with_reducible refine (white_any _ _).mono ?_); rintro e w1 ⟨rfl, rfl⟩)) | (go_at_call 87; (first | (with_reducible refine (O0.out _ S).mono ?_)); rintro e w1 ⟨rfl, S, m1⟩; have Z := Z.mv m1 hgb; have M := M.trans m1; clear m1; obtain ⟨z0, z1, z2, f0, f1, f2⟩ := Z.cells) | (go_at_call 94; (first | (with_reducible refine (D0.out _ S).mono ?_)); rintro e w1 ⟨rfl, S, m1⟩; have Z := Z.mv m1 hgb; have M := M.trans m1; clear m1; obtain ⟨z0, z1, z2, f0, f1, f2⟩ := Z.cells) | (go_at_call 96; (first | (with_reducible refine (N0.out _ S).mono ?_) | (with_reducible refine (N1.out _ S).mono ?_)); rintro e w1 ⟨rfl, S, m1⟩; have Z := Z.mv m1 hgb; have M := M.trans m1; clear m1; obtain ⟨z0, z1, z2, f0, f1, f2⟩ := Z.cells) | (go_at_call 97; (first | (with_reducible refine (Q0.out _ S).mono ?_)); rintro e w1 ⟨he, S, m1⟩; unfold tokV at he; subst he; have Z := Z.mv m1 hgb; have M := M.trans m1; clear m1; obtain ⟨z0, z1, z2, f0, f1, f2⟩ := Z.cells))
  refine bodyPost_ret (v := .tuple #[tokV (kd) (tx) (0), .bool true]) (by simp [results, tokV, Tryz.results51, go_sem, z0, z1, z2]) rfl ⟨by rw [HE.out]; rfl, sc_stores (by rw [HE.out]; exact S) hgb _ _ _, tz_stores M (Nat.le_refl _) _ _ _⟩
 ·have n4 := Ru.eq_f c64
  clear h64 c64
  go_enter Tryz.func51, Tryz.ntmps51
  go_wp2_with (first | (go_at_call 50; (first | (with_reducible refine (C0.out _ S).mono ?_)); rintro e w1 ⟨rfl, S, m1⟩; have Z := Z.mv m1 hgb; have M := M.trans m1; clear m1; obtain ⟨z0, z1, z2, f0, f1, f2⟩ := Z.cells) | (go_at_call 86; ((with_reducible refine (white_any _ _).mono ?_); rintro e w1 ⟨rfl, rfl⟩)) | (go_at_call 87; (first | (with_reducible refine (O0.out _ S).mono ?_)); rintro e w1 ⟨rfl, S, m1⟩; have Z := Z.mv m1 hgb; have M := M.trans m1; clear m1; obtain ⟨z0, z1, z2, f0, f1, f2⟩ := Z.cells) | (go_at_call 94; (first | (with_reducible refine (D0.out _ S).mono ?_)); rintro e w1 ⟨rfl, S, m1⟩; have Z := Z.mv m1 hgb; have M := M.trans m1; clear m1; obtain ⟨z0, z1, z2, f0, f1, f2⟩ := Z.cells) | (go_at_call 96; (first | (with_reducible refine (N0.out _ S).mono ?_) | (with_reducible refine (N1.out _ S).mono ?_)); rintro e w1 ⟨rfl, S, m1⟩; have Z := Z.mv m1 hgb; have M := M.trans m1; clear m1; obtain ⟨z0, z1, z2, f0, f1, f2⟩ := Z.cells) | (go_at_call 97; (first | (with_reducible refine (Q0.out _ S).mono ?_)); rintro e w1 ⟨he, S, m1⟩; unfold tokV at he; subst he; have Z := Z.mv m1 hgb; have M := M.trans m1; clear m1; obtain ⟨z0, z1, z2, f0, f1, f2⟩ := Z.cells))
  refine bodyPost_ret (v := .tuple #[tokV (kd) (tx) (0), .bool true]) (by simp [results, tokV, Tryz.results51, go_sem, z0, z1, z2]) rfl ⟨by rw [HE.out]; rfl, sc_stores (by rw [HE.out]; exact S) hgb _ _ _, tz_stores M (Nat.le_refl _) _ _ _⟩
theorem next_sgl (hC : Tk.Chr l) (hm : l.length <= 65000) (hk : k < l.length) (hp : pl.data.toList = l.map Tk.p8) (hw : Ru.whiB (Ru.g l k) = false) (ho : Tk.opn l k = false) (hpast : Tk.Past l k) (h64 : Ru.g l k = 64 -> Tk.begs l (k + 1) = false) (hr : Tk.begs l k = false) (S : Sc w g A cap l pl k) :
 Calls Tryz.prog 51 #[.pointer (some ⟨g, 0, none⟩)] w (Stp g A cap l pl (Tk.nxt l k).2.2.2 (NxtV (Tk.nxt l k)) w) := by
 have hgb := S.lt
 have S := S.alloc (.cells #[.int .i64 0, .string ⟨#[]⟩, .int .i64 0] 61)
 have M := (Mv.refl g w).alloc (.cells #[.int .i64 0, .string ⟨#[]⟩, .int .i64 0] 61)
 have Z := Tz.new w
 have hg := hC.g hk
 have C0 : Hid (∀ w', Sc w' g A cap l pl k -> Calls Tryz.prog 50 #[.pointer (some ⟨g, 0, none⟩), .int .i64 0] w' (Stp g A cap l pl k (.int .i32 (Ru.g l k)) w')) := Lib.hid fun w' h => by have := peek_any 0 0 rfl (show l.length <= 65536 by omega) (Nat.le_of_lt hk) (by omega) h; rwa [show k + 0 = k from rfl, Tk.at_in hk] at this
 have O0 : Hid (∀ w', Sc w' g A cap l pl k -> Calls Tryz.prog 87 #[.pointer (some ⟨g, 0, none⟩)] w' (Stp g A cap l pl k (.bool false) w')) := Lib.hid fun w' h => by have := opens_any (show l.length <= 65536 by omega) (Nat.le_of_lt hk) h; rwa [ho] at this
 have T0 : Hid (∀ w', Sc w' g A cap l pl k -> Calls Tryz.prog 92 #[.pointer (some ⟨g, 0, none⟩)] w' (Stp g A cap l pl (k + 1) (.int .i32 (Ru.g l k)) w')) := Lib.hid fun w' h => by have := take_in (show l.length <= 65536 by omega) hk h; rwa [Tk.at_in hk] at this
 have C1 : Hid (∀ w', Sc w' g A cap l pl k -> Calls Tryz.prog 50 #[.pointer (some ⟨g, 0, none⟩), .int .i64 1] w' (Stp g A cap l pl k (.int .i32 (Tk.at' l (k + 1))) w')) := Lib.hid fun w' h => peek_any 1 1 rfl (by omega) (Nat.le_of_lt hk) (by omega) h
 have E1 : Hid (∀ w', Sc w' g A cap l pl k -> Calls Tryz.prog 91 #[.pointer (some ⟨g, 0, none⟩), .int .i64 1] w' (Stp g A cap l pl k (.bool (Tk.esc l (k + 1))) w')) := Lib.hid fun w' h => escapes_any 1 1 rfl hC.pos (by omega) (Nat.le_of_lt hk) (by omega) h
 have D0 : Hid (∀ w', Sc w' g A cap l pl k -> Calls Tryz.prog 94 #[.pointer (some ⟨g, 0, none⟩)] w' (Stp g A cap l pl k (.int .i64 (Tk.nlen l k : Nat)) w')) := Lib.hid fun w' h => decimal_any hm (Nat.le_of_lt hk) hp h
 have N1 : Hid (∀ w', Sc w' g A cap l pl k -> Calls Tryz.prog 96 #[.pointer (some ⟨g, 0, none⟩), .int .i64 1] w' (Stp g A cap l pl k (.bool (Tk.begs l (k + 1))) w')) := Lib.hid fun w' h => names_any 1 1 rfl hC.pos (by omega) (Nat.le_of_lt hk) (by omega) h
 have N0 : Hid (∀ w', Sc w' g A cap l pl k -> Calls Tryz.prog 96 #[.pointer (some ⟨g, 0, none⟩), .int .i64 0] w' (Stp g A cap l pl k (.bool (Tk.begs l k)) w')) := Lib.hid fun w' h => names_any 0 0 rfl hC.pos (by omega) (Nat.le_of_lt hk) (by omega) h
 have h0 : Tk.nlen l k = 0 := Nat.eq_zero_of_not_pos (fun h => by have := hpast.2.2.2 (Tk.nlen_num h).2; omega)
 have HE := Lib.hid (Tk.nxt_sgl hpast h64 hr)
 have CS : Hid (∀ w', Calls Tryz.prog 98 #[.int .i32 (Ru.g l k)] w' (Single (Ru.g l k) w')) := Lib.hid fun w' => single_any _ w' hg.1 hg.2
 have h35 := hpast.2.2.1
 have n1 := Ru.eq_f hpast.1
 have n2 := Ru.eq_f hpast.2.1
 rw [h0] at D0
 rw [hr] at N0
 clear hp ho hC hg h0 hr hpast
 generalize Tk.begs l (k + 1) = b1 at *
 generalize Tk.esc l (k + 1) = b2 at *
 generalize Tk.at' l (k + 1) = a1 at *
 generalize hsg : Tk.sgl (Ru.g l k) = sg at *
 have CS2 : Hid (∀ w', Calls Tryz.prog 98 #[.int .i32 (Ru.g l k)] w' (fun e w2 => e = .returned (tokV sg.1 sg.2 0) /\ Below w'.heap.size w' w2)) := Lib.hid fun w' => by rw [<- hsg]; exact CS.out w'
 clear CS hsg
 have CS := CS2
 clear CS2
 generalize Ru.g l k = c at *
 obtain ⟨kd, tx⟩ := sg
 simp only at CS HE
 by_cases c64 : c = 64
 ·have hb1 := h64 c64
  subst c64
  subst hb1
  clear h64 h35
  go_enter Tryz.func51, Tryz.ntmps51
  go_wp2_with (first | (go_at_call 50; (first | (with_reducible refine (C0.out _ S).mono ?_)); rintro e w1 ⟨rfl, S, m1⟩; have Z := Z.mv m1 hgb; have M := M.trans m1; clear m1; obtain ⟨z0, z1, z2, f0, f1, f2⟩ := Z.cells) | (go_at_call 86; ((with_reducible refine (white_any _ _).mono ?_); rintro e w1 ⟨rfl, rfl⟩)) | (go_at_call 87; (first | (with_reducible refine (O0.out _ S).mono ?_)); rintro e w1 ⟨rfl, S, m1⟩; have Z := Z.mv m1 hgb; have M := M.trans m1; clear m1; obtain ⟨z0, z1, z2, f0, f1, f2⟩ := Z.cells) | (go_at_call 94; (first | (with_reducible refine (D0.out _ S).mono ?_)); rintro e w1 ⟨rfl, S, m1⟩; have Z := Z.mv m1 hgb; have M := M.trans m1; clear m1; obtain ⟨z0, z1, z2, f0, f1, f2⟩ := Z.cells) | (go_at_call 96; (first | (with_reducible refine (N0.out _ S).mono ?_) | (with_reducible refine (N1.out _ S).mono ?_)); rintro e w1 ⟨rfl, S, m1⟩; have Z := Z.mv m1 hgb; have M := M.trans m1; clear m1; obtain ⟨z0, z1, z2, f0, f1, f2⟩ := Z.cells) | (go_at_call 92; (first | (with_reducible refine (T0.out _ S).mono ?_)); rintro e w1 ⟨rfl, S, m1⟩; have Z := Z.mv m1 hgb; have M := M.trans m1; clear m1; obtain ⟨z0, z1, z2, f0, f1, f2⟩ := Z.cells) | (go_at_call 98; ((with_reducible refine (CS.out _).mono ?_); rintro e w1 ⟨he, b1⟩; unfold tokV at he; subst he; have Z := Z.below b1 (lt_of_block Z); have M := M.then_ b1 M.size; have S := S.below b1 S.lt; clear b1; obtain ⟨z0, z1, z2, f0, f1, f2⟩ := Z.cells)))
  refine bodyPost_ret (v := .tuple #[tokV (kd) (tx) (0), .bool true]) (by simp [results, tokV, Tryz.results51, go_sem, z0, z1, z2]) rfl ⟨by rw [HE.out]; rfl, sc_stores (by rw [HE.out]; exact S) hgb _ _ _, tz_stores M (Nat.le_refl _) _ _ _⟩
 ·have n4 := Ru.eq_f c64
  clear h64 c64
  by_cases c35 : c = 35
  ·obtain ⟨h5, h6⟩ := h35 c35
   subst c35
   subst h6
   clear h35
   go_enter Tryz.func51, Tryz.ntmps51
   go_wp2_with (first | (go_at_call 50; (first | (with_reducible refine (C0.out _ S).mono ?_) | (with_reducible refine (C1.out _ S).mono ?_)); rintro e w1 ⟨rfl, S, m1⟩; have Z := Z.mv m1 hgb; have M := M.trans m1; clear m1; obtain ⟨z0, z1, z2, f0, f1, f2⟩ := Z.cells) | (go_at_call 86; ((with_reducible refine (white_any _ _).mono ?_); rintro e w1 ⟨rfl, rfl⟩)) | (go_at_call 90; ((with_reducible refine (within_any _ _).mono ?_); rintro e w1 ⟨rfl, rfl⟩)) | (go_at_call 87; (first | (with_reducible refine (O0.out _ S).mono ?_)); rintro e w1 ⟨rfl, S, m1⟩; have Z := Z.mv m1 hgb; have M := M.trans m1; clear m1; obtain ⟨z0, z1, z2, f0, f1, f2⟩ := Z.cells) | (go_at_call 91; (first | (with_reducible refine (E1.out _ S).mono ?_)); rintro e w1 ⟨rfl, S, m1⟩; have Z := Z.mv m1 hgb; have M := M.trans m1; clear m1; obtain ⟨z0, z1, z2, f0, f1, f2⟩ := Z.cells) | (go_at_call 94; (first | (with_reducible refine (D0.out _ S).mono ?_)); rintro e w1 ⟨rfl, S, m1⟩; have Z := Z.mv m1 hgb; have M := M.trans m1; clear m1; obtain ⟨z0, z1, z2, f0, f1, f2⟩ := Z.cells) | (go_at_call 96; (first | (with_reducible refine (N0.out _ S).mono ?_) | (with_reducible refine (N1.out _ S).mono ?_)); rintro e w1 ⟨rfl, S, m1⟩; have Z := Z.mv m1 hgb; have M := M.trans m1; clear m1; obtain ⟨z0, z1, z2, f0, f1, f2⟩ := Z.cells) | (go_at_call 92; (first | (with_reducible refine (T0.out _ S).mono ?_)); rintro e w1 ⟨rfl, S, m1⟩; have Z := Z.mv m1 hgb; have M := M.trans m1; clear m1; obtain ⟨z0, z1, z2, f0, f1, f2⟩ := Z.cells) | (go_at_call 98; ((with_reducible refine (CS.out _).mono ?_); rintro e w1 ⟨he, b1⟩; unfold tokV at he; subst he; have Z := Z.below b1 (lt_of_block Z); have M := M.then_ b1 M.size; have S := S.below b1 S.lt; clear b1; obtain ⟨z0, z1, z2, f0, f1, f2⟩ := Z.cells)))
   refine bodyPost_ret (v := .tuple #[tokV (kd) (tx) (0), .bool true]) (by simp [results, tokV, Tryz.results51, go_sem, z0, z1, z2]) rfl ⟨by rw [HE.out]; rfl, sc_stores (by rw [HE.out]; exact S) hgb _ _ _, tz_stores M (Nat.le_refl _) _ _ _⟩
  ·have n3 := Ru.eq_f c35
   clear h35 c35
   go_enter Tryz.func51, Tryz.ntmps51
   go_wp2_with (first | (go_at_call 50; (first | (with_reducible refine (C0.out _ S).mono ?_)); rintro e w1 ⟨rfl, S, m1⟩; have Z := Z.mv m1 hgb; have M := M.trans m1; clear m1; obtain ⟨z0, z1, z2, f0, f1, f2⟩ := Z.cells) | (go_at_call 86; ((with_reducible refine (white_any _ _).mono ?_); rintro e w1 ⟨rfl, rfl⟩)) | (go_at_call 87; (first | (with_reducible refine (O0.out _ S).mono ?_)); rintro e w1 ⟨rfl, S, m1⟩; have Z := Z.mv m1 hgb; have M := M.trans m1; clear m1; obtain ⟨z0, z1, z2, f0, f1, f2⟩ := Z.cells) | (go_at_call 94; (first | (with_reducible refine (D0.out _ S).mono ?_)); rintro e w1 ⟨rfl, S, m1⟩; have Z := Z.mv m1 hgb; have M := M.trans m1; clear m1; obtain ⟨z0, z1, z2, f0, f1, f2⟩ := Z.cells) | (go_at_call 96; (first | (with_reducible refine (N0.out _ S).mono ?_) | (with_reducible refine (N1.out _ S).mono ?_)); rintro e w1 ⟨rfl, S, m1⟩; have Z := Z.mv m1 hgb; have M := M.trans m1; clear m1; obtain ⟨z0, z1, z2, f0, f1, f2⟩ := Z.cells) | (go_at_call 92; (first | (with_reducible refine (T0.out _ S).mono ?_)); rintro e w1 ⟨rfl, S, m1⟩; have Z := Z.mv m1 hgb; have M := M.trans m1; clear m1; obtain ⟨z0, z1, z2, f0, f1, f2⟩ := Z.cells) | (go_at_call 98; ((with_reducible refine (CS.out _).mono ?_); rintro e w1 ⟨he, b1⟩; unfold tokV at he; subst he; have Z := Z.below b1 (lt_of_block Z); have M := M.then_ b1 M.size; have S := S.below b1 S.lt; clear b1; obtain ⟨z0, z1, z2, f0, f1, f2⟩ := Z.cells)))
   refine bodyPost_ret (v := .tuple #[tokV (kd) (tx) (0), .bool true]) (by simp [results, tokV, Tryz.results51, go_sem, z0, z1, z2]) rfl ⟨by rw [HE.out]; rfl, sc_stores (by rw [HE.out]; exact S) hgb _ _ _, tz_stores M (Nat.le_refl _) _ _ _⟩
theorem next_tok (hC : Tk.Chr l) (hm : l.length <= 65000) (hk : k < l.length) (hp : pl.data.toList = l.map Tk.p8) (hw : Ru.whiB (Ru.g l k) = false) (ho : Tk.opn l k = false) (S : Sc w g A cap l pl k) :
 Calls Tryz.prog 51 #[.pointer (some ⟨g, 0, none⟩)] w (Stp g A cap l pl (Tk.nxt l k).2.2.2 (NxtV (Tk.nxt l k)) w) := by
 by_cases c1 : Ru.g l k = 34 ∨ Ru.g l k = 39
 ·exact next_quoted hC hm hk hp hw ho c1 S
 by_cases c2 : Ru.g l k = 35 /\ (Ru.witB (Tk.at' l (k + 1)) = true ∨ Tk.esc l (k + 1) = true)
 ·exact next_hash hC hm hk hp hw ho c2.1 c2.2 S
 by_cases c3 : 0 < Tk.nlen l k
 ·have h35 : Ru.g l k ≠ 35 := fun e => by have := (Tk.nlen_num c3).2; rw [e] at this; exact absurd this (by decide)
  exact next_number hC hm hk hp hw ho (fun e => c1 (.inl e)) (fun e => c1 (.inr e)) h35 c3 S
 have hpast : Tk.Past l k := ⟨fun h => c1 (.inl h), fun h => c1 (.inr h),
  fun h => ⟨by rw [Bool.eq_false_iff]; exact fun h2 => c2 ⟨h, .inl h2⟩, by rw [Bool.eq_false_iff]; exact fun h2 => c2 ⟨h, .inr h2⟩⟩,
  fun _ => Nat.eq_zero_of_not_pos c3⟩
 by_cases c4 : Ru.g l k = 64 /\ Tk.begs l (k + 1) = true
 ·exact next_atkey hC hm hk hp hw ho c4.1 c4.2 S
 have h64 : Ru.g l k = 64 -> Tk.begs l (k + 1) = false := fun h => by rw [Bool.eq_false_iff]; exact fun h2 => c4 ⟨h, h2⟩
 cases c5 : Tk.begs l k
 ·exact next_sgl hC hm hk hp hw ho hpast h64 c5 S
 ·exact next_word hC hm hk hp hw ho hpast h64 c5 S
end
theorem Tryz.info8 : (Tryz.prog.info? 5).map (fun i => (i.zero, i.size, i.bytes)) = some (some (.int .u8 0), 1, 1) := by kernel_rfl
namespace Tk
open Ru
def p8I (c : Int) : Int := min c 128
def done8 (l : List Int) (k : Nat) : List Int := (l.take k).map p8I ++ List.replicate (l.length - k) 0
theorem done8_len {l : List Int} {k : Nat} (h : k <= l.length) : (done8 l k).length = l.length := by unfold done8; simp; omega
theorem done8_zero (l : List Int) : done8 l 0 = List.replicate l.length 0 := by unfold done8; simp
theorem done8_all (l : List Int) : done8 l l.length = l.map p8I := by unfold done8; simp
theorem done8_next {l : List Int} {k : Nat} (h : k < l.length) : done8 l (k + 1) = (done8 l k).set k (p8I (g l k)) := by
 unfold done8
 rw [take_g h, List.map_append, List.set_append_right _ _ (by simp; omega)]
 have e1 : k - ((l.take k).map p8I).length = 0 := by simp; omega
 obtain ⟨m, hm⟩ : ∃ m, l.length - k = m + 1 := ⟨l.length - k - 1, by omega⟩
 rw [e1, hm, show l.length - (k + 1) = m by omega, List.replicate_succ, List.set_cons_zero, List.append_assoc]
 rfl
def plainT (l : List Int) : ByteArray := strOfNums (l.map p8I)
theorem plainT_data (l : List Int) : (plainT l).data.toList = l.map p8 := by
 unfold plainT strOfNums
 simp [p8, p8I]
end Tk
def NewS (l : List Int) (w : World) (e : Ending) (w' : World) : Prop :=
 ∃ (g : Nat) (A : Option Addr) (cap : Nat), e = .returned (.pointer (some ⟨g, 0, none⟩)) /\ w.heap.size <= g /\ Sc w' g A cap l (Tk.plainT l) 0 /\ Below w.heap.size w w'
def NewAt (l : List Int) (w : World) (gx cp : Nat) (v11 : Value) (wr : World) : Prop :=
 ∃ k : Nat, k <= l.length /\ v11 = .int .i64 k /\ Hid (wr.ownsRow w.heap.size 5 1 (.slice (some ⟨gx, 0, none⟩) l.length cp) l.length (nums .u8 (Tk.done8 l k))) /\ Hid (Below w.heap.size w wr)
theorem set_nums {k : IntKind} (l : List Int) (j : Nat) (x : Int) : (nums k l).set j (.int k x) = nums k (l.set j x) := by unfold nums; rw [List.map_set]
theorem own_conv {w : World} {B gx cp n : Nat} {l : List Int} (h : w.ownsRow B 5 1 (.slice (some ⟨gx, 0, none⟩) n cp) n (nums .u8 l)) (hn : n = l.length) : (convert 22 9 (.slice (some ⟨gx, 0, none⟩) n cp)).run Tryz.prog w = .ok (.string (strOfNums l)) w := by
 subst hn
 exact conv_bytes cp (Bs.of_own h)
theorem newScanner_any (l : List Int) (hC : Tk.Chr l) (A : Option Addr) (cap : Nat) (w : World) (hm : l.length <= 65536) (hA : Bs w w.heap.size .i32 A l) :
 Calls Tryz.prog 48 #[.slice A l.length cap] w (NewS l w) := by
 obtain ⟨i0, hi, hz0, hz1, hz2⟩ := info_parts Tryz.info8
 have HA := Lib.hid hA
 have HC := Lib.hid hC
 clear hA hC
 go_enter Tryz.func48, Tryz.ntmps48
 go_wp2_with (at_make; refine wpList_make_full _ rfl _ _ 22 rfl w.heap.size 5 i0 (.int .u8 0) 1 Tryz.underlying22 hi hz0 hz1 .i64 .i64 _ _ l.length rfl rfl rfl rfl (by rw [hz2]; omega) (by unfold maxLen; omega) (Nat.le_refl _) ?_; intro w1 hown1 hgrow1)
 have HO1 : Hid (w1.ownsRow w.heap.size 5 1 (.slice (some ⟨w.heap.size, 0, none⟩) l.length l.length) l.length (nums .u8 (Tk.done8 l 0))) := Lib.hid (by
  have e : (madeCells (Value.int .u8 0).cells (l.length * 1)).toList = nums .u8 (Tk.done8 l 0) := by
   rw [Tk.done8_zero, Nat.mul_one]
   unfold nums
   rw [List.map_replicate]
   exact toList_madeCells_one _ _
  rw [<- e]; exact hown1)
 have HB1 : Hid (Below w.heap.size w w1) := Lib.hid ((Below.refl _ _).grown hgrow1 (Nat.le_refl _) (by simp))
 clear hown1 hgrow1
 go_wp2_with fail
 go_loopw [11] (fun v11 wr => NewAt l w w.heap.size l.length v11 wr) (fun v11 _ => l.length - (RowKit.intOf v11).toNat)
 case atStart => exact ⟨0, Nat.zero_le _, rfl, HO1, HB1⟩
 case round =>
  obtain ⟨k, hk, rfl, HO, HB⟩ := hrel
  clear HO1 HB1
  by_cases hlt : k < l.length
  ·obtain ⟨b, off, rfl, hb, hp⟩ := HA.out (by omega)
   have hcell := (HB.out.cell (p := ⟨b, off + k, none⟩) hb).trans (hp k hlt)
   have hy := HC.out.g hlt
   have hold : ∃ u, wr.cell? ⟨w.heap.size, k, none⟩ = some (.int .u8 u) := ⟨_, (HO.out.cellAt k (by omega)).trans (nums_get (by rw [Tk.done8_len hk]; exact hlt))⟩
   obtain ⟨u, hu⟩ := hold
   have hf := HO.out.frozenAt k
   have HX : Hid ((Tk.done8 l (k + 1)) = (Tk.done8 l k).set k (Tk.p8I (Ru.g l k))) := Lib.hid (Tk.done8_next hlt)
   obtain ⟨y0, y1⟩ := hy
   clear hp
   generalize Ru.g l k = y at *
   go_wp2_with fail
   go_roundw
   case rel => exact ⟨k + 1, by omega, by go_num, Lib.hid (by rw [HX.out, <- set_nums]; exact (HO.out.stored k _).1), Lib.hid (HB.out.setCell (Nat.le_refl _) _)⟩
   case measure => simp [RowKit.intOf]; omega
  ·have hk' : k = l.length := by omega
   have HO2 : Hid (wr.ownsRow w.heap.size 5 1 (.slice (some ⟨w.heap.size, 0, none⟩) l.length l.length) l.length (nums .u8 (l.map Tk.p8I))) := Lib.hid (by have h := HO.out; rw [hk', Tk.done8_all] at h; exact h)
   have cv := own_conv HO2.out (by simp)
   rw [show strOfNums (l.map Tk.p8I) = Tk.plainT l from rfl] at cv
   have hsz := HB.out.size
   clear HO HO2
   obtain ⟨pl, hpl⟩ : ∃ pl, pl = Tk.plainT l := ⟨_, rfl⟩
   rw [<- hpl] at cv
   have HPL := Lib.hid hpl
   clear hpl
   go_wp2_with fail
   go_ret
   exact ⟨wr.heap.size, A, cap, rfl, hsz, ⟨by rw [<- HPL.out]; exact heap_alloc_new wr _, ((HA.out.below HB.out).more hsz).below ((Below.refl _ _).alloc (Nat.le_refl _) _)⟩, HB.out.alloc hsz _⟩
def ScnAt (g : Nat) (A : Option Addr) (cap : Nat) (l : List Int) (pl : ByteArray) (w : World) (r : Nat) (v5 : Value) (wr : World) : Prop :=
 ∃ (k : Nat) (ts : List Tk.Tok), k <= l.length /\ l.length - k <= r /\ ts.length <= k /\ Hid (Tk.scan l 0 = ts ++ Tk.scan l k) /\ Hid (wr.ownsRow (g + 1) 61 3 v5 ts.length (Tk.cells ts)) /\ Hid (Below w.heap.size w wr) /\ Sc wr g A cap l pl k /\ w.heap.size <= wr.heap.size
theorem scan_any (bl : List Int) (hl : Ru.By bl) (A0 : Option Addr) (cap0 : Nat) (w : World) (hm : bl.length <= 65000) (ht : (Tk.scan (Ru.rd bl) 0).length < 16384) (hcap : bl.length <= cap0) (hT : UTab w.heap.size w) (hA : Bs w w.heap.size .u8 A0 bl) :
 Calls Tryz.prog 28 #[.slice A0 bl.length cap0] w (Toks (Tk.scan (Ru.rd bl) 0) w) := by
 obtain ⟨i0, hi, hz0, hz1, hz2⟩ := info_parts Tryz.infoTok
 have CR := Lib.hid ((read_told bl hl A0 cap0 w (by omega) hcap hT hA).mono fun _ _ h => told h)
 have hC : Tk.Chr (Ru.rd bl) := Tk.rd_chr hl
 have HC := Lib.hid hC
 have hlen := Ru.rd_len' bl
 clear hA hl hT hC
 generalize Ru.rd bl = l at *
 have CN : Hid (∀ (A : Option Addr) (cap : Nat) (w1 : World), Bs w1 w1.heap.size .i32 A l -> Calls Tryz.prog 48 #[.slice A l.length cap] w1 (NewS l w1)) := Lib.hid fun A cap w1 h => newScanner_any l HC.out A cap w1 (by omega) h
 have HTN := Lib.hid ht
 clear ht
 go_enter Tryz.func28, Tryz.ntmps28
 go_wp2_with (first | (go_at_call 49; ((with_reducible refine (CR.out).mono ?_); rintro e w1 ⟨A1, c1, rfl, hc1, hB1, b1⟩)) | (go_at_call 48; ((with_reducible refine (CN.out _ _ _ hB1).mono ?_); rintro e w2 ⟨g, A, cap, rfl, hg, S, b2⟩)))
 have HB : Hid (Below w.heap.size w w2) := Lib.hid (below_next b1 b2)
 have hwg : w.heap.size <= g := Nat.le_trans b1.size hg
 have hws : w.heap.size <= w2.heap.size := Nat.le_trans b1.size b2.size
 clear b1 b2 hg hB1 CR CN
 have hPL := Tk.plainT_data l
 generalize Tk.plainT l = pl at *
 have HPL := Lib.hid hPL
 clear hPL
 go_loopg [5] l.length (fun r v5 wr => ScnAt g A cap l pl w r v5 wr)
 case atStart => exact ⟨0, [], by omega, by omega, by simp, Lib.hid rfl, Lib.hid (World.ownsRow_nil _ _ _ _), HB, S, hws⟩
 case round =>
  clear S HB hws
  obtain ⟨k, ts, hk, hr, hts, HS, HO, HB, S, hws⟩ := hrel
  obtain ⟨A5, c5, hv, hc5⟩ := row_slice HO.out
  subst hv
  have hts2 : ts.length < 16384 := by have := HTN.out; rw [HS.out, List.length_append] at this; omega
  have n16 : ((ts.length : Int) == 16384) = false := Ru.eq_f (by omega)
  have hc3 : ts.length + 1 <= maxLen := by unfold maxLen; omega
  have hc4 : (ts.length + 1) * 32 <= 140737488355328 := by omega
  have C0 : Hid (∀ w', Sc w' g A cap l pl k -> Calls Tryz.prog 50 #[.pointer (some ⟨g, 0, none⟩), .int .i64 0] w' (Stp g A cap l pl k (.int .i32 (Tk.at' l k)) w')) := Lib.hid fun w' h => peek_any 0 0 rfl (by omega) hk (by omega) h
  by_cases hlt : k < l.length
  ·have ha := HC.out.g hlt
   have n1 := Ru.ne_t (show ¬ Ru.g l k = -1 by omega)
   by_cases hgap : Ru.whiB (Tk.at' l k) = true ∨ Tk.opn l k = true
   ·have hsl := Tk.sp_le l k false hk
    have hsg : k < (Tk.sp l k false).1 := Tk.sp_gt hgap
    have HD : Hid (Tk.scan l 0 = (ts ++ Tk.spTok (Tk.sp l k false).2) ++ Tk.scan l (Tk.sp l k false).1) := Lib.hid (by rw [HS.out, Tk.scan_gap hlt, List.append_assoc])
    have X0 : Hid (∀ w', Sc w' g A cap l pl k -> Calls Tryz.prog 51 #[.pointer (some ⟨g, 0, none⟩)] w' (Stp g A cap l pl (Tk.sp l k false).1 (GapV (Tk.sp l k false).2) w')) := Lib.hid fun w' h => next_gap HC.out (by omega) hk hgap h
    rw [Tk.at_in hlt] at C0
    clear HS hgap
    generalize Ru.g l k = y at *
    generalize Tk.sp l k false = s at *
    obtain ⟨j, b⟩ := s
    simp only at hsl hsg HD X0
    cases b
    ·go_wp2_with (first | (go_at_call 50; (first | (with_reducible refine (C0.out _ S).mono ?_)); rintro e w1 ⟨rfl, S, m1⟩; have HO := Lib.hid (own_mv HO.out m1 (Nat.lt_succ_self g)); have HB := Lib.hid (HB.out.trans (m1.below hwg hws)); have hws := Nat.le_trans hws m1.size; clear m1) | (go_at_call 51; (first | (with_reducible refine (X0.out _ S).mono ?_)); rintro e w1 ⟨he, S, m1⟩; unfold GapV tokV at he; subst he; have HO := Lib.hid (own_mv HO.out m1 (Nat.lt_succ_self g)); have HB := Lib.hid (HB.out.trans (m1.below hwg hws)); have hws := Nat.le_trans hws m1.size; clear m1))
     go_roundg (l.length - j)
     case measure => omega
     case rel => exact ⟨j, ts, by omega, by omega, by omega, Lib.hid (by rw [HD.out]; simp [Tk.spTok]), Lib.hid (HO.out.alloc _), Lib.hid (HB.out.alloc hws _), S.alloc _, by simp; omega⟩
    ·go_wp2_with (first | (go_at_call 50; (first | (with_reducible refine (C0.out _ S).mono ?_)); rintro e w1 ⟨rfl, S, m1⟩; have HO := Lib.hid (own_mv HO.out m1 (Nat.lt_succ_self g)); have HB := Lib.hid (HB.out.trans (m1.below hwg hws)); have hws := Nat.le_trans hws m1.size; clear m1) | (go_at_call 51; (first | (with_reducible refine (X0.out _ S).mono ?_)); rintro e w1 ⟨he, S, m1⟩; unfold GapV tokV at he; subst he; have HO := Lib.hid (own_mv HO.out m1 (Nat.lt_succ_self g)); have HB := Lib.hid (HB.out.trans (m1.below hwg hws)); have hws := Nat.le_trans hws m1.size; clear m1) | (at_builtin; have E1 := (HO.out.alloc (.cells #[.int .i64 (1), .string (⟨#[]⟩), .int .i64 (0)] 61)).alloc (.cells #[.int .i64 (1), .string (⟨#[]⟩), .int .i64 (0)] 61); have E2 : g + 1 <= ((w1.alloc (.cells #[.int .i64 (1), .string (⟨#[]⟩), .int .i64 (0)] 61)).alloc (.cells #[.int .i64 (1), .string (⟨#[]⟩), .int .i64 (0)] 61)).heap.size := (by have := S.lt; simp; omega); refine wpList_append_own _ rfl _ _ 32 rfl (g + 1) 61 i0 zTok 3 32 Tryz.underlying32 hi hz0 hz1 hz2 rfl (by decide) _ _ _ rfl E1 ⟨w1.heap.size + 1, 0, none⟩ 1 1 [.int .i64 (1), .string (⟨#[]⟩), .int .i64 (0)] rfl rfl (three_cell _ _ (by simp) _ _ _) (three_ok _ _ _) hc3 hc4 E2 ?_; intro v' w3 hown3 hgrow _; have HO3 := Lib.hid (cells_next (t := (1, ⟨#[]⟩, 0)) hown3); have HG := Lib.hid ((((Below.refl (g + 1) w1).alloc S.lt (.cells #[.int .i64 (1), .string (⟨#[]⟩), .int .i64 (0)] 61)).alloc (by have := S.lt; simp; omega) (.cells #[.int .i64 (1), .string (⟨#[]⟩), .int .i64 (0)] 61)).grown hgrow E2 (fun x hx => (HO.out.lt x hx).1)); have S := S.below HG.out (Nat.lt_succ_self g); have HB := Lib.hid (HB.out.trans (HG.out.mono (Nat.le_succ_of_le hwg))); have hws := Nat.le_trans hws HG.out.size; clear hown3 hgrow E1 E2 HG))
     go_roundg (l.length - j)
     case measure => omega
     case rel => exact ⟨j, ts ++ [(1, ⟨#[]⟩, 0)], by omega, by omega, by simp; omega, Lib.hid (by rw [HD.out]; simp [Tk.spTok]), HO3, HB, S, hws⟩
   ·have hw : Ru.whiB (Tk.at' l k) = false := by rw [Bool.eq_false_iff]; exact fun h => hgap (.inl h)
    have ho : Tk.opn l k = false := by rw [Bool.eq_false_iff]; exact fun h => hgap (.inr h)
    have hnx := Tk.nxt_le hlt
    have HD : Hid (Tk.scan l 0 = (ts ++ [Tk.tokOf (Tk.nxt l k)]) ++ Tk.scan l (Tk.nxt l k).2.2.2) := Lib.hid (by rw [HS.out, Tk.scan_tok hlt hw ho, List.append_assoc]; rfl)
    have X0 : Hid (∀ w', Sc w' g A cap l pl k -> Calls Tryz.prog 51 #[.pointer (some ⟨g, 0, none⟩)] w' (Stp g A cap l pl (Tk.nxt l k).2.2.2 (NxtV (Tk.nxt l k)) w')) := Lib.hid fun w' h => next_tok HC.out (by omega) hlt HPL.out (by rw [<- Tk.at_in hlt]; exact hw) ho h
    rw [Tk.at_in hlt] at C0
    clear HS hgap hw ho
    generalize Ru.g l k = y at *
    generalize Tk.nxt l k = s at *
    obtain ⟨kd, tx, nv, j⟩ := s
    simp only at hnx HD X0
    go_wp2_with (first | (go_at_call 50; (first | (with_reducible refine (C0.out _ S).mono ?_)); rintro e w1 ⟨rfl, S, m1⟩; have HO := Lib.hid (own_mv HO.out m1 (Nat.lt_succ_self g)); have HB := Lib.hid (HB.out.trans (m1.below hwg hws)); have hws := Nat.le_trans hws m1.size; clear m1) | (go_at_call 51; (first | (with_reducible refine (X0.out _ S).mono ?_)); rintro e w1 ⟨he, S, m1⟩; unfold NxtV tokV at he; subst he; have HO := Lib.hid (own_mv HO.out m1 (Nat.lt_succ_self g)); have HB := Lib.hid (HB.out.trans (m1.below hwg hws)); have hws := Nat.le_trans hws m1.size; clear m1) | (at_builtin; have E1 := (HO.out.alloc (.cells #[.int .i64 (kd), .string (tx), .int .i64 (nv)] 61)).alloc (.cells #[.int .i64 (kd), .string (tx), .int .i64 (nv)] 61); have E2 : g + 1 <= ((w1.alloc (.cells #[.int .i64 (kd), .string (tx), .int .i64 (nv)] 61)).alloc (.cells #[.int .i64 (kd), .string (tx), .int .i64 (nv)] 61)).heap.size := (by have := S.lt; simp; omega); refine wpList_append_own _ rfl _ _ 32 rfl (g + 1) 61 i0 zTok 3 32 Tryz.underlying32 hi hz0 hz1 hz2 rfl (by decide) _ _ _ rfl E1 ⟨w1.heap.size + 1, 0, none⟩ 1 1 [.int .i64 (kd), .string (tx), .int .i64 (nv)] rfl rfl (three_cell _ _ (by simp) _ _ _) (three_ok _ _ _) hc3 hc4 E2 ?_; intro v' w3 hown3 hgrow _; have HO3 := Lib.hid (cells_next (t := (kd, tx, nv)) hown3); have HG := Lib.hid ((((Below.refl (g + 1) w1).alloc S.lt (.cells #[.int .i64 (kd), .string (tx), .int .i64 (nv)] 61)).alloc (by have := S.lt; simp; omega) (.cells #[.int .i64 (kd), .string (tx), .int .i64 (nv)] 61)).grown hgrow E2 (fun x hx => (HO.out.lt x hx).1)); have S := S.below HG.out (Nat.lt_succ_self g); have HB := Lib.hid (HB.out.trans (HG.out.mono (Nat.le_succ_of_le hwg))); have hws := Nat.le_trans hws HG.out.size; clear hown3 hgrow E1 E2 HG))
    go_roundg (l.length - j)
    case measure => omega
    case rel => exact ⟨j, ts ++ [(kd, tx, nv)], by omega, by omega, by simp; omega, HD, HO3, HB, S, hws⟩
  ·have HE : Hid (Tk.scan l 0 = ts) := Lib.hid (by rw [HS.out, Tk.scan_end hlt, List.append_nil])
   rw [Tk.at_out hlt] at C0
   clear HS
   go_wp2_with (go_at_call 50; (first | (with_reducible refine (C0.out _ S).mono ?_)); rintro e w1 ⟨rfl, S, m1⟩; have HO := Lib.hid (own_mv HO.out m1 (Nat.lt_succ_self g)); have HB := Lib.hid (HB.out.trans (m1.below hwg hws)); have hws := Nat.le_trans hws m1.size; clear m1)
   go_ret2
   exact ⟨_, rfl, by rw [HE.out]; exact own_le HO.out (Nat.le_succ_of_le hwg), HB.out⟩
theorem scan_told6 (bl : List Int) (hl : Ru.By bl) (A0 : Option Addr) (cap0 : Nat) (w : World) (hm : bl.length <= 4000) (hcap : bl.length <= cap0) (hT : UTab w.heap.size w) (hA : Bs w w.heap.size .u8 A0 bl) :
 Calls Tryz.prog 28 #[.slice A0 bl.length cap0] w (Told3 (Tk.scan (Ru.rd bl) 0) w) := (scan_any bl hl A0 cap0 w (by omega) (by have h1 := Tk.scan_len (Ru.rd bl) _ 0 (Nat.le_refl _); have h2 := Ru.rd_len' bl; omega) hcap hT hA).mono fun _ _ h => told3 h
abbrev awCells6 : Obj := .cells #[.int .u8 97, .int .u8 123, .int .u8 98, .int .u8 58, .int .u8 99, .int .u8 33, .int .u8 105, .int .u8 109, .int .u8 112, .int .u8 111, .int .u8 114, .int .u8 116, .int .u8 97, .int .u8 110, .int .u8 116, .int .u8 59, .int .u8 100, .int .u8 125, .int .u8 64, .int .u8 120, .int .u8 32, .int .u8 121, .int .u8 59, .int .u8 64, .int .u8 112, .int .u8 97, .int .u8 103, .int .u8 101, .int .u8 32, .int .u8 58, .int .u8 108, .int .u8 101, .int .u8 102, .int .u8 116, .int .u8 123, .int .u8 109, .int .u8 97, .int .u8 114, .int .u8 103, .int .u8 105, .int .u8 110, .int .u8 58, .int .u8 49, .int .u8 101, .int .u8 109, .int .u8 59, .int .u8 64, .int .u8 116, .int .u8 111, .int .u8 112, .int .u8 45, .int .u8 108, .int .u8 101, .int .u8 102, .int .u8 116, .int .u8 123, .int .u8 99, .int .u8 111, .int .u8 110, .int .u8 116, .int .u8 101, .int .u8 110, .int .u8 116, .int .u8 58, .int .u8 39, .int .u8 120, .int .u8 39, .int .u8 125, .int .u8 125] 5 (69, 70)
def awV6 : Array Value := (Rl.awB.map fun c => Value.int .u8 c).toArray
theorem aw_bs6 (w : World) : Bs (w.alloc awCells6) (w.alloc awCells6).heap.size .u8 (some ⟨w.heap.size, 0, none⟩) Rl.awB := by
 have e : awCells6 = .cells awV6 5 (69, 70) := rfl
 rw [e]
 intro _
 refine ⟨w.heap.size, 0, rfl, by simp, fun j hj => ?_⟩
 rw [Nat.zero_add, World.cell?_alloc_mark]
 show awV6[j]? = some (.int .u8 (Ru.g Rl.awB j))
 unfold awV6
 rw [List.getElem?_toArray, List.getElem?_map, List.getElem?_eq_getElem hj, Ru.g_eq hj]
 rfl
theorem aw_deep : ¬ Ns.deep Rl.awT := by
 rintro ⟨k, hk, h⟩
 have := Ns.opn_len Rl.awT (k + 1)
 have : Rl.awT.length = 30 := rfl
 omega
theorem aw_par : ParC Rl.sdU Rl.awT Rl.awL 0 := by
 have e := Rl.aw_parse Rl.awS
 exact .inr (.inr ⟨aw_deep, by rw [e]; decide, e.symm, rfl⟩)
structure AwR (b off : Nat) (w : World) : Prop where
 d0 : ∃ b2 off2 c2, w.cell? ⟨b, off + 2, none⟩ = some (.slice (some ⟨b2, off2, none⟩) 1 c2) /\ w.cell? ⟨b2, off2 + 2, none⟩ = some (.bool true)
 k1 : w.cell? ⟨b, off + 4, none⟩ = some (.int .i64 2)
 m1 : ∃ A3 c3, w.cell? ⟨b, off + 4 + 3, none⟩ = some (.slice A3 1 c3)
theorem awR_of {w : World} {A : Option Addr} (h : Rl.Cells 4 (Rl.RulQ true) w A Rl.awL) : ∃ b off, A = some ⟨b, off, none⟩ /\ AwR b off w := by
 obtain ⟨b, off, hA, hb, hp⟩ := rul_at h (by decide)
 obtain ⟨A1, c1, A2, c2, A3, c3, _, _, _, r2, _, _, _, _, p2, _⟩ := hp 0 (by decide)
 obtain ⟨b2, off2, hA2, _, hp2⟩ := dec_at r2 (by decide)
 obtain ⟨_, _, _, _, _, _, z2⟩ := hp2 0 (by decide)
 obtain ⟨B1, e1, B2, e2, B3, e3, _, _, _, _, _, _, q0, _, _, q3⟩ := hp 1 (by decide)
 subst hA2
 exact ⟨b, off, hA, ⟨b2, off2, c2, p2, z2⟩, q0, B3, e3, q3⟩
theorem lawake_any (w : World) (hT : PTab w.heap.size w) (hB : BTab w.heap.size w) : Calls Tryz.prog 10 #[] w (Yes w) := by
 have hb0 : Below w.heap.size w (w.alloc awCells6) := (Below.refl _ _).alloc (Nat.le_refl _) _
 have hF : Pr.FairB Rl.awT := by
  have := Rl.scan_fair (l := Ru.rd Rl.awB) (by rw [Rl.awB_rd]; decide)
  rwa [Rl.aw_scan] at this
 have hwf : Pr.Wf Rl.awT := by
  have := Rl.scan_wf (Ru.rd Rl.awB)
  rwa [Rl.aw_scan] at this
 have CP : Hid (Calls Tryz.prog 11 #[.slice (some ⟨w.heap.size, 0, none⟩) 69 69] (w.alloc awCells6) (ToldR Rl.awL 0 (w.alloc awCells6))) := Lib.hid (cparse_any Rl.sdU (csound_any Rl.sdU Rl.sdU_is) Rl.awT hF hwf Rl.awL 0 aw_par (some ⟨w.heap.size, 0, none⟩) 69 69 (w.alloc awCells6) (hT.next hb0) (hB.next hb0) (by
  have h := scan_told6 Rl.awB Rl.awB_by (some ⟨w.heap.size, 0, none⟩) 69 (w.alloc awCells6) (by decide) (by decide) (hT.next hb0).u (aw_bs6 w)
  rw [Rl.aw_scan] at h
  exact h))
 have CB : Hid (∀ W, Below w.heap.size w W -> Calls Tryz.prog 19 #[.string ⟨#[76, 101, 102, 116, 45, 84, 111, 112]⟩] W (Nu 15 W)) := Lib.hid fun W hb => by
  have := cbox_any ⟨#[76, 101, 102, 116, 45, 84, 111, 112]⟩ (by decide) W (hB.next hb)
  rwa [show Rl.box ⟨#[76, 101, 102, 116, 45, 84, 111, 112]⟩ = 15 by decide +kernel] at this
 have CX : Hid (∀ W, Below w.heap.size w W -> Calls Tryz.prog 23 #[] W (ToldS Rl.boxes W)) := Lib.hid fun W hb => cboxes_any W (hB.next hb)
 have HB0 := Lib.hid hb0
 have hll : Hid (Rl.awL.length = 2) := Lib.hid rfl
 have hbl : Hid (Rl.boxes.length = 16) := Lib.hid rfl
 have kc := fun (W : World) (C : Array Value) (n c : Nat) => Lib.run_convert_bytes_const (P := Tryz.prog) W 22 5 C n c Tryz.underlying22 Tryz.underlying5
 clear hT hB hb0 hF hwf
 go_enter Tryz.func10, Tryz.ntmps10
 go_wp2_with (first | (go_at_call 11; ((with_reducible refine (CP.out).mono ?_); rintro e w1 ⟨A, cap, rfl, _, hC, _, b1⟩; obtain ⟨b, off, rfl, ⟨b2, off2, c2, d0, d1⟩, k1, A3, c3, m1⟩ := awR_of hC; rw [hll.out]; have HB1 := Lib.hid (below_next HB0.out b1); clear b1 hC)) | (go_at_call 19; ((with_reducible refine (CB.out _ HB1.out).mono ?_); rintro e w2 ⟨rfl, b2⟩; have HB2 := Lib.hid (below_next HB1.out b2); clear b2)) | (go_at_call 23; ((with_reducible refine (CX.out _ HB2.out).mono ?_); rintro e w3 ⟨AX, cX, rfl, _, _, b3⟩; rw [hbl.out]; have HB3 := Lib.hid (below_next HB2.out b3); clear b3)))
 go_ret
 exact ⟨rfl, HB3.out⟩
namespace Rl
open Tk Ns
def Dep (k : Nat) (R : List Tok) : Prop := ∀ j, j <= R.length -> (opn R j).length <= k
theorem dep_deep {R : List Tok} (h : Dep 64 R) : ¬ deep R := fun ⟨k, hk, h2⟩ => by have := h (k + 1) (by omega); omega
def In (ts : List Tok) (a b : Nat) (v : List Tok) : Prop := ∃ P Q, ts = P ++ v ++ Q /\ a <= P.length /\ P.length + v.length <= b
theorem In.mono {ts v : List Tok} {a b a' b' : Nat} (h : In ts a b v) (ha : a' <= a) (hb : b <= b') : In ts a' b' v := by
 obtain ⟨P, Q, e, h1, h2⟩ := h
 exact ⟨P, Q, e, by omega, by omega⟩
theorem in_sub {ts A v B : List Tok} {a b : Nat} (hab : a <= b) (hb : b <= ts.length) (e : sub ts a b = A ++ v ++ B) : In ts a b v := by
 obtain ⟨e1, e2, e3⟩ := sub_split hab hb
 have hl := congrArg List.length e
 rw [List.length_append, List.length_append] at hl
 refine ⟨ts.take a ++ A, B ++ ts.drop b, ?_, by rw [List.length_append]; omega, by rw [List.length_append]; omega⟩
 conv => lhs; rw [e1, e]
 simp
def MarIn (ts : List Tok) (a b : Nat) (m : Margin) : Prop := ∃ e, a <= e /\ e < b /\ isO (tk ts e) /\ ∀ d ∈ m.2, In ts (e + 1) (min (Ru.g (ends ts) e).toNat b) d.2.1
theorem MarIn.mono {ts : List Tok} {a b a' : Nat} {m : Margin} (h : MarIn ts a b m) (ha : a' <= a) : MarIn ts a' b m := by
 obtain ⟨e, h1, h2, h3, h4⟩ := h
 exact ⟨e, by omega, h2, h3, h4⟩
theorem brB_isO {t : Tok} (h : brB t = true) : isO t := by
 have h := of_decide_eq_true h
 unfold isO clo
 rw [if_neg (fun d => by
  rcases d with d | d
  ·omega
  ·rw [h.2] at d; exact absurd d.2 (by decide)), if_neg (fun d => by rw [h.2] at d; exact absurd d.2 (by decide)), if_pos h]
 decide
theorem fo_at {p : Tok -> Bool} {ts : List Tok} {a b : Nat} (h : fo p ts a b < b) : p (tk ts (fo p ts a b)) = true := by
 unfold fo at h ⊢
 by_cases hn : fnd (fun x => p (tk ts x)) (plc (ends ts) b a) = -1
 ·rw [if_pos hn] at h; omega
 ·rw [if_neg hn]
  obtain ⟨x, _, e, hx⟩ := fnd_mem hn
  rw [e, Int.toNat_natCast]; exact hx
theorem st_open {semi : Bool} {t : Tok} (h : stB semi t = true) (hk : t.1 = 12) : isO t := by
 unfold stB at h
 rcases Bool.or_eq_true_iff.1 h with h | h
 ·exact brB_isO h
 ·have := of_decide_eq_true (Bool.and_eq_true_iff.1 h).2
  omega
section
variable {sd : List Tok -> Bool} (ts : List Tok)
theorem decl_in {a b : Nat} {d : Decl} (hab : a <= b) (hb : b <= ts.length) (h : declL sd (sub ts a b) = some d) : In ts a b d.2.1 := by
 obtain ⟨⟨A, B, e, _⟩, _⟩ := declL_part h
 exact in_sub hab hb e
theorem block_in : ∀ (n : Nat) (page : Bool) (a b : Nat), b <= ts.length -> (∀ d ∈ (blockF sd ts n page a b).1, In ts a b d.2.1) /\ ∀ m ∈ (blockF sd ts n page a b).2, MarIn ts a b m
 | 0, page, a, b, _ => by
   rw [blockF]
   exact ⟨fun d hd => (by cases hd), fun d hd => (by cases hd)⟩
 | n + 1, page, a, b, hb => by
   rw [blockF]
   by_cases hab : a < b
   ·rw [if_pos hab]
    by_cases h1 : (tk ts a).1 = 1 ∨ (tk ts a).1 = 15
    ·rw [if_pos h1]
     have ih := block_in n page (a + 1) b hb
     exact ⟨fun d hd => (ih.1 d hd).mono (by omega) (Nat.le_refl _), fun m hm => (ih.2 m hm).mono (by omega)⟩
    ·rw [if_neg h1]
     by_cases h4 : (tk ts a).1 = 4
     ·rw [if_pos h4]
      have hf := fo_bd (stB true) ts (show a + 1 <= b by omega)
      have hg := sk_gt (ends ts) (fo (stB true) ts (a + 1) b)
      have ih := block_in n page (sk (ends ts) (fo (stB true) ts (a + 1) b)) b hb
      have ih2 := block_in n false (fo (stB true) ts (a + 1) b + 1) (min (Ru.g (ends ts) (fo (stB true) ts (a + 1) b)).toNat b) (by omega)
      have r : (∀ d ∈ (blockF sd ts n page (sk (ends ts) (fo (stB true) ts (a + 1) b)) b).1, In ts a b d.2.1) /\ ∀ m ∈ (blockF sd ts n page (sk (ends ts) (fo (stB true) ts (a + 1) b)) b).2, MarIn ts a b m :=
       ⟨fun d hd => (ih.1 d hd).mono (by omega) (Nat.le_refl _), fun m hm => (ih.2 m hm).mono (by omega)⟩
      split
      ·rename_i hc
       refine ⟨r.1, fun m hm => ?_⟩
       rcases List.mem_cons.1 hm with rfl | hm
       ·exact ⟨_, by omega, hc.1, st_open (fo_at hc.1) hc.2.1, ih2.1⟩
       ·exact r.2 m hm
      ·exact r
     ·rw [if_neg h4]
      have hf := fo_bd seB ts (show a <= b by omega)
      have ih := block_in n page (fo seB ts a b) b hb
      cases hd : declL sd (sub ts a (fo seB ts a b)) with
      | none => exact ⟨fun d hd => (ih.1 d hd).mono hf.1 (Nat.le_refl _), fun m hm => (ih.2 m hm).mono hf.1⟩
      | some d =>
        refine ⟨fun x hx => ?_, fun m hm => (ih.2 m hm).mono hf.1⟩
        rcases List.mem_cons.1 hx with rfl | hx
        ·exact (decl_in ts hf.1 (by omega) hd).mono (Nat.le_refl _) hf.2
        ·exact (ih.1 x hx).mono hf.1 (Nat.le_refl _)
   ·rw [if_neg hab]
    exact ⟨fun d hd => (by cases hd), fun d hd => (by cases hd)⟩
def RuleIn (r : Rule) : Prop := In ts 0 ts.length r.2.1 /\ ∃ e, e < ts.length /\ isO (tk ts e) /\ (∀ d ∈ r.2.2.1, In ts (e + 1) (Ru.g (ends ts) e).toNat d.2.1) /\ ∀ m ∈ r.2.2.2, MarIn ts (e + 1) (Ru.g (ends ts) e).toNat m
theorem rule_in {a : Nat} (ha : a < ts.length) (h : isRule sd ts a) : RuleIn ts (ruleAt sd ts (isAt ts a) a (endAt ts a)) := by
 obtain ⟨he, h12, _, _⟩ := h
 have hfl : (if isAt ts a = true then a + 1 else a) <= ts.length := by split <;> omega
 have hf := fo_bd (stB (isAt ts a)) ts hfl
 have hend : endAt ts a = fo (stB (isAt ts a)) ts (if isAt ts a = true then a + 1 else a) ts.length := rfl
 obtain ⟨A, B, e, _, _⟩ := trim_part (sub ts (if isAt ts a = true then a + 1 else a) (endAt ts a))
 have hg : (Ru.g (ends ts) (endAt ts a)).toNat <= ts.length := by
  have := ends_range (ts := ts) (k := endAt ts a) (by omega)
  unfold Ru.g
  omega
 have hb := block_in (sd := sd) ts ts.length (isAt ts a) (endAt ts a + 1) _ hg
 refine ⟨(in_sub (by omega) (by omega) e).mono (Nat.zero_le _) (by omega), endAt ts a, he, ?_, hb.1, hb.2⟩
 exact st_open (fo_at (by rw [<- hend]; exact he)) h12
variable (hd : ¬ deep ts)
include hd
end
end Rl
namespace Rl
open Tk Ns
variable {sd : List Tok -> Bool} {ts : List Tok}
theorem block_len : ∀ (n : Nat) (page : Bool) (a b : Nat), (blockF sd ts n page a b).1.length <= b - a /\ (blockF sd ts n page a b).2.length <= b - a /\ ∀ m ∈ (blockF sd ts n page a b).2, m.2.length <= b
 | 0, page, a, b => by
   rw [blockF]
   exact ⟨Nat.zero_le _, Nat.zero_le _, fun m hm => by cases hm⟩
 | n + 1, page, a, b => by
   rw [blockF]
   by_cases hab : a < b
   ·rw [if_pos hab]
    by_cases h1 : (tk ts a).1 = 1 ∨ (tk ts a).1 = 15
    ·rw [if_pos h1]
     obtain ⟨i1, i2, i3⟩ := block_len n page (a + 1) b
     exact ⟨by omega, by omega, i3⟩
    ·rw [if_neg h1]
     by_cases h4 : (tk ts a).1 = 4
     ·rw [if_pos h4]
      have hf := fo_bd (stB true) ts (show a + 1 <= b by omega)
      have hs := sk_gt (ends ts) (fo (stB true) ts (a + 1) b)
      obtain ⟨i1, i2, i3⟩ := block_len n page (sk (ends ts) (fo (stB true) ts (a + 1) b)) b
      obtain ⟨j1, _, _⟩ := block_len n false (fo (stB true) ts (a + 1) b + 1) (min (Ru.g (ends ts) (fo (stB true) ts (a + 1) b)).toNat b)
      split
      ·refine ⟨by simp only; omega, by simp only [List.length_cons]; omega, fun m hm => ?_⟩
       rcases List.mem_cons.1 hm with rfl | hm
       ·simp only; omega
       ·exact i3 m hm
      ·exact ⟨by omega, by omega, i3⟩
     ·rw [if_neg h4]
      have hf := fo_bd seB ts (show a <= b by omega)
      have hl := fo_lt (p := seB) hab (decide_eq_false (fun c => h1 (.inr c)))
      obtain ⟨i1, i2, i3⟩ := block_len n page (fo seB ts a b) b
      cases declL sd (sub ts a (fo seB ts a b)) with
      | none => exact ⟨by show _ <= _; simp only [addD]; omega, by simp only [addD]; omega, i3⟩
      | some d => exact ⟨by simp only [addD, List.length_cons]; omega, by simp only [addD]; omega, i3⟩
   ·rw [if_neg hab]
    exact ⟨Nat.zero_le _, Nat.zero_le _, fun m hm => by cases hm⟩
theorem in_len {a b : Nat} {v : List Tok} (h : In ts a b v) : v.length <= ts.length := by
 obtain ⟨P, Q, e, _, _⟩ := h
 rw [e, List.length_append, List.length_append]; omega
theorem ruleAt_ok {a : Nat} (ha : a < ts.length) (hm : ts.length <= 65536) (h : isRule sd ts a) : RuOk (ruleAt sd ts (isAt ts a) a (endAt ts a)) := by
 obtain ⟨h1, e, he, _, h3, h4⟩ := rule_in ts ha h
 have hend : (Ru.g (ends ts) (endAt ts a)).toNat <= ts.length := by
  have h2 := h
  unfold isRule at h2
  rcases ends_range (ts := ts) (k := endAt ts a) h2.1 with ⟨_, h5⟩ | ⟨_, _, h6⟩
  ·have : Ru.g (ends ts) (endAt ts a) = -1 := h5
   omega
  ·have : Ru.g (ends ts) (endAt ts a) <= ts.length := h6
   omega
 obtain ⟨b1, b2, b3⟩ := block_len (sd := sd) (ts := ts) ts.length (isAt ts a) (endAt ts a + 1) (Ru.g (ends ts) (endAt ts a)).toNat
 refine ⟨Nat.le_trans (in_len h1) hm, ?_, fun d hd => Nat.le_trans (in_len (h3 d hd)) hm, ?_, fun m hmm => ⟨?_, fun d hd => ?_⟩⟩
 ·show (blockF sd ts ts.length (isAt ts a) (endAt ts a + 1) (Ru.g (ends ts) (endAt ts a)).toNat).1.length <= 65536
  omega
 ·show (blockF sd ts ts.length (isAt ts a) (endAt ts a + 1) (Ru.g (ends ts) (endAt ts a)).toNat).2.length <= 65536
  omega
 ·have := b3 m hmm
  omega
 ·obtain ⟨e2, _, _, _, h5⟩ := h4 m hmm
  exact Nat.le_trans (in_len (h5 d hd)) hm
theorem parseF_ruok (hm : ts.length <= 65536) : ∀ (n a : Nat), ∀ r ∈ parseF sd ts n a, RuOk r
 | 0, a, r, hr => by rw [parseF] at hr; cases hr
 | n + 1, a, r, hr => by
   rw [parseF] at hr
   by_cases ha : a < ts.length
   ·rw [if_pos ha] at hr
    by_cases h1 : (tk ts a).1 = 1
    ·rw [if_pos h1] at hr; exact parseF_ruok hm n _ r hr
    ·rw [if_neg h1] at hr
     by_cases h2 : isRule sd ts a
     ·rw [if_pos h2] at hr
      rcases List.mem_cons.1 hr with rfl | hr
      ·exact ruleAt_ok ha hm h2
      ·exact parseF_ruok hm n _ r hr
     ·rw [if_neg h2] at hr; exact parseF_ruok hm n _ r hr
   ·rw [if_neg ha] at hr; cases hr
theorem parse_ruok (hm : ts.length <= 65536) : ∀ r ∈ parse sd ts, RuOk r := parseF_ruok hm _ _
end Rl
end Go.Proofs.YtkcabpjfgbghjaaGreatDoor
