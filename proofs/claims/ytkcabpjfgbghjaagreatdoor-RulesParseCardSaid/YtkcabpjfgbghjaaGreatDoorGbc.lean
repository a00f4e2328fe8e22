/-
  The walk of Next: numbers.
-/
import Derived.Test.YtkcabpjfgbghjaaGreatDoorGba
import Derived.Test.YtkcabpjfgbghjaaGreatDoorGbb
import Derived.Test.YtkcabpjfgbghjaaGreatDoorGac
import Derived.Test.YtkcabpjfgbghjaaGreatDoorGax
import Derived.Test.YtkcabpjfgbghjaaGreatDoorGag
import Derived.Test.YtkcabpjfgbghjaaGreatDoorGay
import Derived.Deep.Cut
import Derived.Deep.CutRange
import Derived.Deep.DeepCutAuto
import Derived.Test.YtkcabpjfgbghjaaGreatDoorGaw
set_option maxHeartbeats 16000000
set_option maxRecDepth 100000
namespace Go.Proofs.YtkcabpjfgbghjaaGreatDoor
open Go.RowKit
theorem tnext_num (l : List Int) (k : Nat) (b off cap : Nat) (w : World) (hm : l.length <= 65000) (hk : k < l.length) (hN : ∀ c ∈ l, 0 <= c) (hb : b < w.heap.size) (hp : On w l b off) (hc : Tk.numB (Ru.g l k) = true) (h0 : 0 < Tk.nlen l k) :
 Calls Tryz.prog 59 #[.slice (some ⟨b, off, none⟩) l.length cap, .int .i64 k] w (Nexted (Tk.nxt l k) w) := by
 have hcs := of_decide_eq_true hc
 have HD := Lib.hid (show Tk.nxt l k = if Tk.begs l (k + Tk.nlen l k) = true then (10, Tk.str (Tk.name l (k + Tk.nlen l k)).1, Tk.nval l k, (Tk.name l (k + Tk.nlen l k)).2) else if Tk.at' l (k + Tk.nlen l k) = 37 then (9, ⟨#[]⟩, Tk.nval l k, k + Tk.nlen l k + 1) else (8, ⟨#[]⟩, Tk.nval l k, k + Tk.nlen l k) by unfold Tk.nxt; rw [if_neg (by omega), if_neg (fun h => by omega), if_pos ⟨hc, h0⟩])
 have hn : Now w (w.alloc (.cells #[.int .i64 0, .string ⟨#[]⟩, .int .i64 0] 61)) := Now.refl w
 have hcell := hp k hk
 have HP := Lib.hid hp
 have CA : Hid (∀ wr, Now w wr -> AtIs l b off cap wr) := Lib.hid fun wr h => (at_is l b off cap wr (by omega) (h.on hb HP.out)).out
 have CE : Hid (∀ wr, Now w wr -> EscIs l b off cap wr) := Lib.hid fun wr h => (esc_is l b off cap wr (by omega) (h.on hb HP.out)).out
 have CB : Hid (∀ wr, Now w wr -> BegsIs l b off cap wr) := Lib.hid fun wr h => (begs_is l b off cap wr (by omega) (h.on hb HP.out)).out
 have CN : Hid (∀ wr, Now w wr -> ∀ (x : Int) (j : Nat), x = j -> j <= l.length -> Calls Tryz.prog 112 #[.slice (some ⟨b, off, none⟩) l.length cap, .int .i64 x] wr (Named l j wr)) := Lib.hid fun wr h x j hx hj => tname_any l x j hx b off cap wr (by omega) hj (h.lt hb) (h.on hb HP.out)
 have CS := Lib.hid (tascii_any l k b off cap (w.alloc (.cells #[.int .i64 0, .string ⟨#[]⟩, .int .i64 0] 61)) (by omega) (by omega) hN (hn.lt hb) (hn.on hb hp))
 have CL : Hid (∀ wr, Calls Tryz.prog 114 #[.string (strOfNums (Tk.ascL l k))] wr fun e w' => e = .returned (.int .i64 (Tk.nlen l k : Nat)) /\ wr = w') := rlength_is _ (by have := Tk.ascL_len l k; rw [strOfNums_size]; omega)
 clear hp hN
 have hsz : Tk.nlen l k <= (strOfNums (Tk.ascL l k)).size := by
  have := Fx.len_hi (Tk.numL l k)
  unfold Tk.nlen
  unfold Tk.numL at this ⊢
  rw [Lib.size_eq]
  exact this
 have hle := Tk.nlen_le l k (by omega)
 have hs9 : (strOfNums (Tk.ascL l k)).size <= 65000 := by have := Tk.ascL_len l k; rw [strOfNums_size]; omega
 have CP : Hid (∀ wr, Calls Tryz.prog 115 #[.string ((strOfNums (Tk.ascL l k)).extract 0 (Tk.nlen l k))] wr (Pv (Tk.nval l k) wr)) := Lib.hid fun wr => by
  have h := rparse_pv ((strOfNums (Tk.ascL l k)).extract 0 (Tk.nlen l k)) wr (by rw [ByteArray.size_extract]; omega)
  have hx : ((strOfNums (Tk.ascL l k)).extract 0 (Tk.nlen l k)).data.toList = (Tk.numL l k).take (Tk.nlen l k) := by rw [Lib.extract_data]; simp; rfl
  rw [hx] at h
  exact h
 rw [HD.out]
 clear HD hc
 generalize strOfNums (Tk.ascL l k) = s at *
 generalize Tk.nlen l k = n at *
 generalize Ru.g l k = c at *
 generalize Tk.nval l k = v at *
 have hR3 : True = True := rfl
 have hnm := (Tk.name_le l _ (k + n) (Nat.le_refl _) hle).2
 by_cases hR1 : Tk.begs l (k + n) = true
 ·rw [if_pos hR1]
  have hR2 : True = True := rfl
  rcases hcs with rfl | rfl | rfl | ⟨d1, d2⟩
  case' inr.inr.inr =>
   have e34 : (c == 34) = false := beq_false_of_ne (by omega)
   have e39 : (c == 39) = false := beq_false_of_ne (by omega)
   have e35 : (c == 35) = false := beq_false_of_ne (by omega)
   have e43 : (c == 43) = false := beq_false_of_ne (by omega)
   have e45 : (c == 45) = false := beq_false_of_ne (by omega)
   have e46 : (c == 46) = false := beq_false_of_ne (by omega)
   have g1 : decide (48 <= c) = true := decide_eq_true d1
   have g2 : decide (c <= 57) = true := decide_eq_true d2
  all_goals
   go_enter Tryz.func59, Tryz.ntmps59
   go_wp2_with (first | (go_at_call 113; have X := CS.out; (with_reducible refine X.mono ?_); clear X; rintro e w1 ⟨he, b1⟩; (first | rw [hR1] at he | rw [hR2] at he | rw [hR3] at he | skip); subst he; have hn1 := hn.next b1) | (go_at_call 114; have X := CL.out w1; (with_reducible refine X.mono ?_); clear X; rintro e w' ⟨he, rfl⟩; (first | rw [hR1] at he | rw [hR2] at he | rw [hR3] at he | skip); subst he) | (go_at_call 115; have X := CP.out w1; (with_reducible refine X.mono ?_); clear X; rintro e w3 ⟨ok, he, b3⟩; subst he; have hn3 := hn1.next b3; obtain ⟨z0, z1, z2, f0, f1, f2⟩ := tok_cells hn3) | (go_at_call 116; have X := CB.out _ hn3 ((k : Int) + n) (k + n) (by omega) (by omega); (with_reducible refine X.mono ?_); clear X; rintro e w' ⟨he, rfl⟩; (first | rw [hR1] at he | rw [hR2] at he | rw [hR3] at he | skip); subst he) | (go_at_call 112; have X := CN.out _ hn3 ((k : Int) + n) (k + n) (by omega) (by omega); (with_reducible refine X.mono ?_); clear X; rintro e w2 ⟨he, b2⟩; (first | rw [hR1] at he | rw [hR2] at he | rw [hR3] at he | skip); subst he; have hb2 := hn3.next b2; obtain ⟨z0, z1, z2, f0, f1, f2⟩ := tok_cells hb2) | (go_at_call 108; have X := CA.out _ hn3 ((k : Int) + n) (k + n) (by omega); (with_reducible refine X.mono ?_); clear X; rintro e w' ⟨he, rfl⟩; (first | rw [hR1] at he | rw [hR2] at he | rw [hR3] at he | skip); subst he))
   refine bodyPost_ret (v := .tuple #[tokV (10) (Tk.str (Tk.name l (k + n)).1) (v), .int .i64 (((Tk.name l (k + n)).2 : Nat))]) (by simp [results, tokV, Tryz.results59, go_sem, z0, z1, z2]) rfl (nexted rfl rfl hb2 _ _ _)
 ·rw [if_neg hR1]
  replace hR1 : Tk.begs l (k + n) = false := by rw [Bool.eq_false_iff]; exact hR1
  by_cases hR2 : Tk.at' l (k + n) = 37
  ·rw [if_pos hR2]
   rcases hcs with rfl | rfl | rfl | ⟨d1, d2⟩
   case' inr.inr.inr =>
    have e34 : (c == 34) = false := beq_false_of_ne (by omega)
    have e39 : (c == 39) = false := beq_false_of_ne (by omega)
    have e35 : (c == 35) = false := beq_false_of_ne (by omega)
    have e43 : (c == 43) = false := beq_false_of_ne (by omega)
    have e45 : (c == 45) = false := beq_false_of_ne (by omega)
    have e46 : (c == 46) = false := beq_false_of_ne (by omega)
    have g1 : decide (48 <= c) = true := decide_eq_true d1
    have g2 : decide (c <= 57) = true := decide_eq_true d2
   all_goals
    go_enter Tryz.func59, Tryz.ntmps59
    go_wp2_with (first | (go_at_call 113; have X := CS.out; (with_reducible refine X.mono ?_); clear X; rintro e w1 ⟨he, b1⟩; (first | rw [hR1] at he | rw [hR2] at he | rw [hR3] at he | skip); subst he; have hn1 := hn.next b1) | (go_at_call 114; have X := CL.out w1; (with_reducible refine X.mono ?_); clear X; rintro e w' ⟨he, rfl⟩; (first | rw [hR1] at he | rw [hR2] at he | rw [hR3] at he | skip); subst he) | (go_at_call 115; have X := CP.out w1; (with_reducible refine X.mono ?_); clear X; rintro e w3 ⟨ok, he, b3⟩; subst he; have hn3 := hn1.next b3; obtain ⟨z0, z1, z2, f0, f1, f2⟩ := tok_cells hn3) | (go_at_call 116; have X := CB.out _ hn3 ((k : Int) + n) (k + n) (by omega) (by omega); (with_reducible refine X.mono ?_); clear X; rintro e w' ⟨he, rfl⟩; (first | rw [hR1] at he | rw [hR2] at he | rw [hR3] at he | skip); subst he) | (go_at_call 112; have X := CN.out _ hn3 ((k : Int) + n) (k + n) (by omega) (by omega); (with_reducible refine X.mono ?_); clear X; rintro e w2 ⟨he, b2⟩; (first | rw [hR1] at he | rw [hR2] at he | rw [hR3] at he | skip); subst he; have hb2 := hn3.next b2; obtain ⟨z0, z1, z2, f0, f1, f2⟩ := tok_cells hb2) | (go_at_call 108; have X := CA.out _ hn3 ((k : Int) + n) (k + n) (by omega); (with_reducible refine X.mono ?_); clear X; rintro e w' ⟨he, rfl⟩; (first | rw [hR1] at he | rw [hR2] at he | rw [hR3] at he | skip); subst he))
    refine bodyPost_ret (v := .tuple #[tokV (9) (⟨#[]⟩) (v), .int .i64 ((k : Int) + n + 1)]) (by simp [results, tokV, Tryz.results59, go_sem, z0, z1, z2]) rfl (nexted rfl (by omega) hn3 _ _ _)
  ·rw [if_neg hR2]
   have e37 := beq_false_of_ne hR2
   rcases hcs with rfl | rfl | rfl | ⟨d1, d2⟩
   case' inr.inr.inr =>
    have e34 : (c == 34) = false := beq_false_of_ne (by omega)
    have e39 : (c == 39) = false := beq_false_of_ne (by omega)
    have e35 : (c == 35) = false := beq_false_of_ne (by omega)
    have e43 : (c == 43) = false := beq_false_of_ne (by omega)
    have e45 : (c == 45) = false := beq_false_of_ne (by omega)
    have e46 : (c == 46) = false := beq_false_of_ne (by omega)
    have g1 : decide (48 <= c) = true := decide_eq_true d1
    have g2 : decide (c <= 57) = true := decide_eq_true d2
   all_goals
    go_enter Tryz.func59, Tryz.ntmps59
    go_wp2_with (first | (go_at_call 113; have X := CS.out; (with_reducible refine X.mono ?_); clear X; rintro e w1 ⟨he, b1⟩; (first | rw [hR1] at he | rw [hR2] at he | rw [hR3] at he | skip); subst he; have hn1 := hn.next b1) | (go_at_call 114; have X := CL.out w1; (with_reducible refine X.mono ?_); clear X; rintro e w' ⟨he, rfl⟩; (first | rw [hR1] at he | rw [hR2] at he | rw [hR3] at he | skip); subst he) | (go_at_call 115; have X := CP.out w1; (with_reducible refine X.mono ?_); clear X; rintro e w3 ⟨ok, he, b3⟩; subst he; have hn3 := hn1.next b3; obtain ⟨z0, z1, z2, f0, f1, f2⟩ := tok_cells hn3) | (go_at_call 116; have X := CB.out _ hn3 ((k : Int) + n) (k + n) (by omega) (by omega); (with_reducible refine X.mono ?_); clear X; rintro e w' ⟨he, rfl⟩; (first | rw [hR1] at he | rw [hR2] at he | rw [hR3] at he | skip); subst he) | (go_at_call 112; have X := CN.out _ hn3 ((k : Int) + n) (k + n) (by omega) (by omega); (with_reducible refine X.mono ?_); clear X; rintro e w2 ⟨he, b2⟩; (first | rw [hR1] at he | rw [hR2] at he | rw [hR3] at he | skip); subst he; have hb2 := hn3.next b2; obtain ⟨z0, z1, z2, f0, f1, f2⟩ := tok_cells hb2) | (go_at_call 108; have X := CA.out _ hn3 ((k : Int) + n) (k + n) (by omega); (with_reducible refine X.mono ?_); clear X; rintro e w' ⟨he, rfl⟩; (first | rw [hR1] at he | rw [hR2] at he | rw [hR3] at he | skip); subst he))
    refine bodyPost_ret (v := .tuple #[tokV (8) (⟨#[]⟩) (v), .int .i64 ((k : Int) + n)]) (by simp [results, tokV, Tryz.results59, go_sem, z0, z1, z2]) rfl (nexted rfl (by omega) hn3 _ _ _)
theorem tnext_any (l : List Int) (k : Nat) (b off cap : Nat) (w : World) (hm : l.length <= 65000) (hk : k < l.length) (hN : ∀ c ∈ l, 0 <= c) (hb : b < w.heap.size) (hp : On w l b off) :
 Calls Tryz.prog 59 #[.slice (some ⟨b, off, none⟩) l.length cap, .int .i64 k] w (Nexted (Tk.nxt l k) w) := by
 by_cases c1 : Ru.g l k = 34 ∨ Ru.g l k = 39
 ·exact tnext_quote l k b off cap w hm hk hN hb hp c1
 by_cases c2 : Ru.g l k = 35 /\ (Ru.witB (Tk.at' l (k + 1)) = true ∨ Tk.esc l (k + 1) = true)
 ·exact tnext_hash l k b off cap w hm hk hN hb hp c2.1 c2.2
 by_cases c3 : Tk.numB (Ru.g l k) = true /\ 0 < Tk.nlen l k
 ·exact tnext_num l k b off cap w hm hk hN hb hp c3.1 c3.2
 have hpast : Tk.Past l k := ⟨fun h => c1 (.inl h), fun h => c1 (.inr h),
  fun h => ⟨by rw [Bool.eq_false_iff]; exact fun h2 => c2 ⟨h, .inl h2⟩, by rw [Bool.eq_false_iff]; exact fun h2 => c2 ⟨h, .inr h2⟩⟩,
  fun h => Nat.eq_zero_of_not_pos fun h2 => c3 ⟨h, h2⟩⟩
 by_cases c4 : Ru.g l k = 64 /\ Tk.begs l (k + 1) = true
 ·exact tnext_atkey l k b off cap w hm hk hN hb hp c4.1 c4.2
 have h64 : Ru.g l k = 64 -> Tk.begs l (k + 1) = false := fun h => by rw [Bool.eq_false_iff]; exact fun h2 => c4 ⟨h, h2⟩
 by_cases c5 : Tk.begs l k = true
 ·exact tnext_name l k b off cap w hm hk hN hb hp hpast c5 h64
 have hb0 : Tk.begs l k = false := by rw [Bool.eq_false_iff]; exact c5
 by_cases c6 : Ru.g l k = 58
 ·exact tnext_colon l k b off cap w hm hk hN hb hp c6
 by_cases c7 : Ru.g l k = 59
 ·exact tnext_semi l k b off cap w hm hk hN hb hp c7
 by_cases c8 : Ru.g l k = 44
 ·exact tnext_comma l k b off cap w hm hk hN hb hp c8
 exact tnext_sym l k b off cap w hm hk hN hb hp hpast hb0 h64 c6 c7 c8
def TSpAt (l : List Int) (k0 : Nat) (v1 v6 : Value) : Prop := ∃ (k : Nat) (b : Bool), k <= l.length /\ v1 = .int .i64 k /\ v6 = .bool b /\ Hid (Tk.sp l k0 false = Tk.sp l k b)
def CmtAt (l : List Int) (j0 : Nat) (v1 : Value) : Prop := ∃ j : Nat, j0 <= j /\ j <= l.length /\ v1 = .int .i64 j /\ Hid (Tk.cmtE l j0 = Tk.cmtE l j)
theorem ret_ib {k1 : IntKind} {a c : Int} {b d : Bool} (h1 : a = c) (h2 : b = d) : Ending.returned (.tuple #[.int k1 a, .bool b]) = .returned (.tuple #[.int k1 c, .bool d]) := by rw [h1, h2]
theorem tspaces_any (l : List Int) (k0 : Nat) (b off cap : Nat) (w : World) (hm : l.length <= 65536) (hk0 : k0 <= l.length) (hp : On w l b off) :
 Calls Tryz.prog 58 #[.slice (some ⟨b, off, none⟩) l.length cap, .int .i64 k0] w fun e w' => e = .returned (.tuple #[.int .i64 ((Tk.sp l k0 false).1 : Nat), .bool (Tk.sp l k0 false).2]) /\ w = w' := by
 have CT := at_is l b off cap w hm hp
 have HP := Lib.hid hp
 clear hp
 go_enter Tryz.func58, Tryz.ntmps58
 go_wp2_with fail
 go_loop [1, 6] (fun v1 v6 => TSpAt l k0 v1 v6) (fun v1 _ => l.length - (RowKit.intOf v1).toNat)
 case atStart => exact ⟨k0, false, hk0, rfl, rfl, Lib.hid rfl⟩
 case round =>
  obtain ⟨k, bb, hk, rfl, rfl, HS⟩ := hrel
  have C0 := Lib.hid (CT.out _ k rfl)
  have C1 := Lib.hid (CT.out _ _ (cast1 k))
  cases hw : Ru.whiB (Tk.at' l k)
  ·by_cases h47 : Tk.at' l k = 47
   ·by_cases h42 : Tk.at' l (k + 1) = 42
    ·have ho : Tk.opn l k = true := by unfold Tk.opn; exact decide_eq_true ⟨h47, h42⟩
     have hlt := Tk.opn_lt ho
     have HX := Lib.hid (Tk.sp_opn (b := bb) hw ho)
     have hcl := Tk.cmt_le ho
     rw [h47] at C0 hw
     rw [h42] at C1
     clear ho h47 h42
     go_wp2_with (first | (go_at_call 108; first | ((with_reducible refine (C0.out).mono ?_); rintro e w' ⟨rfl, rfl⟩) | ((with_reducible refine (C1.out).mono ?_); rintro e w' ⟨rfl, rfl⟩)) | (go_at_call 107; ((with_reducible refine (twhite_any _ _).mono ?_); rintro e w' ⟨rfl, rfl⟩)))
     go_loop [1] (fun v1 => CmtAt l (k + 2) v1) (fun v1 => l.length - (RowKit.intOf v1).toNat)
     case atStart => exact ⟨k + 2, Nat.le_refl _, by omega, by go_num, Lib.hid rfl⟩
     case round =>
      obtain ⟨j, j1, j2, rfl, HC⟩ := hrel
      have D1 := Lib.hid (CT.out _ _ (cast1 j))
      by_cases hj : j < l.length
      ·have hcell := HP.out j hj
       by_cases g42 : Ru.g l j = 42
       ·by_cases g47 : Tk.at' l (j + 1) = 47
        ·have hE := Tk.cmtE_no (l := l) (j := j) (fun h => h.2 ⟨g42, g47⟩)
         have HJ : Hid (((Tk.cmt l k : Nat) : Int) = min ((j : Int) + 2) (l.length : Int)) := Lib.hid (by unfold Tk.cmt; rw [HC.out, hE]; omega)
         rw [g42] at hcell
         rw [g47] at D1
         clear g42 g47 hE
         go_wp2_with (go_at_call 108; ((with_reducible refine (D1.out).mono ?_); rintro e w' ⟨rfl, rfl⟩))
         go_round
         case rel => exact ⟨Tk.cmt l k, bb, hcl.2, by rw [HJ.out], rfl, Lib.hid (by rw [HS.out, HX.out])⟩
         case measure => simp [RowKit.intOf]; omega
        ·have hE := Lib.hid (Tk.cmtE_yes (l := l) (j := j) ⟨hj, fun h => g47 h.2⟩)
         have e47 := Ru.eq_f g47
         rw [g42] at hcell
         clear g42 g47
         go_wp2_with (go_at_call 108; ((with_reducible refine (D1.out).mono ?_); rintro e w' ⟨rfl, rfl⟩))
         go_round
         case rel => exact ⟨j + 1, by omega, by omega, by go_num, Lib.hid (by rw [HC.out, hE.out])⟩
         case measure => simp [RowKit.intOf]; omega
       ·have hE := Lib.hid (Tk.cmtE_yes (l := l) (j := j) ⟨hj, fun h => g42 h.1⟩)
        have e42 := Ru.eq_f g42
        clear g42
        generalize Ru.g l j = y at *
        go_wp2_with (go_at_call 108; ((with_reducible refine (D1.out).mono ?_); rintro e w' ⟨rfl, rfl⟩))
        go_round
        case rel => exact ⟨j + 1, by omega, by omega, by go_num, Lib.hid (by rw [HC.out, hE.out])⟩
        case measure => simp [RowKit.intOf]; omega
      ·have hE := Tk.cmtE_no (l := l) (j := j) (fun h => hj h.1)
       have HJ : Hid (((Tk.cmt l k : Nat) : Int) = min ((j : Int) + 2) (l.length : Int)) := Lib.hid (by unfold Tk.cmt; rw [HC.out, hE]; omega)
       clear hE
       go_wp2_with fail
       go_round
       case rel => exact ⟨Tk.cmt l k, bb, hcl.2, by rw [HJ.out], rfl, Lib.hid (by rw [HS.out, HX.out])⟩
       case measure => simp [RowKit.intOf]; omega
    ·have ho : Tk.opn l k = false := by unfold Tk.opn; exact decide_eq_false (fun h => h42 h.2)
     have HX := Lib.hid (Tk.sp_no (b := bb) hw ho)
     have e42 := Ru.eq_f h42
     rw [h47] at C0 hw
     clear ho h47 h42
     go_wp2_with (first | (go_at_call 108; first | ((with_reducible refine (C0.out).mono ?_); rintro e w' ⟨rfl, rfl⟩) | ((with_reducible refine (C1.out).mono ?_); rintro e w' ⟨rfl, rfl⟩)) | (go_at_call 107; ((with_reducible refine (twhite_any _ _).mono ?_); rintro e w' ⟨rfl, rfl⟩)))
     go_ret2
     exact ⟨ret_ib (by rw [HS.out, HX.out]) (by rw [HS.out, HX.out]), rfl⟩
   ·have ho : Tk.opn l k = false := by unfold Tk.opn; exact decide_eq_false (fun h => h47 h.1)
    have HX := Lib.hid (Tk.sp_no (b := bb) hw ho)
    have e47 := Ru.eq_f h47
    clear ho h47
    generalize Tk.at' l k = a at *
    go_wp2_with (first | (go_at_call 108; first | ((with_reducible refine (C0.out).mono ?_); rintro e w' ⟨rfl, rfl⟩) | ((with_reducible refine (C1.out).mono ?_); rintro e w' ⟨rfl, rfl⟩)) | (go_at_call 107; ((with_reducible refine (twhite_any _ _).mono ?_); rintro e w' ⟨rfl, rfl⟩)))
    go_ret2
    exact ⟨ret_ib (by rw [HS.out, HX.out]) (by rw [HS.out, HX.out]), rfl⟩
  ·have hlt := Tk.whi_lt hw
   have HX := Lib.hid (Tk.sp_white (b := bb) hw)
   generalize Tk.at' l k = a at *
   go_wp2_with (first | (go_at_call 108; first | ((with_reducible refine (C0.out).mono ?_); rintro e w' ⟨rfl, rfl⟩) | ((with_reducible refine (C1.out).mono ?_); rintro e w' ⟨rfl, rfl⟩)) | (go_at_call 107; ((with_reducible refine (twhite_any _ _).mono ?_); rintro e w' ⟨rfl, rfl⟩)))
   go_round
   case rel => exact ⟨k + 1, true, by omega, by go_num, rfl, Lib.hid (by rw [HS.out, HX.out])⟩
   case measure => simp [RowKit.intOf]; omega
def ScanAt (l : List Int) (w1 : World) (v5 v6 : Value) (wr : World) : Prop :=
 ∃ (k : Nat) (ts : List Tk.Tok), k <= l.length /\ v6 = .int .i64 k /\ Hid (Tk.scan l 0 = ts ++ Tk.scan l k) /\ wr.ownsRow w1.heap.size 61 3 v5 ts.length (Tk.cells ts) /\ Hid (Below w1.heap.size w1 wr) /\ ts.length <= 2 * k
def MidAt (w1 : World) (ts : List Tk.Tok) (v5 : Value) (wr : World) : Prop :=
 Hid (wr.ownsRow w1.heap.size 61 3 v5 ts.length (Tk.cells ts)) /\ Hid (Below w1.heap.size w1 wr)
theorem tscan_any (bl : List Int) (hl : Ru.By bl) (A : Option Addr) (cap : Nat) (w : World) (hm : bl.length <= 2000) (hcap : bl.length <= cap) (hA : Bs w w.heap.size .u8 A bl) :
 Calls Tryz.prog 31 #[.slice A bl.length cap] w (Toks (Tk.scan (Ru.rd bl) 0) w) := by
 obtain ⟨i0, hi, hz0, hz1, hz2⟩ := info_parts Tryz.infoTok
 have CR := Lib.hid ((rread_any bl hl A cap w (by omega) hcap hA).mono fun _ _ h => told h)
 have HN : Hid (∀ c ∈ Ru.rd bl, 0 <= c) := Lib.hid fun c hc => (Tk.rd_chr hl c hc).1
 have hm2 := Ru.rd_len' bl
 clear hA hl
 generalize Ru.rd bl = l at *
 go_enter Tryz.func31, Tryz.ntmps31
 go_wp2_with (go_at_call 57; ((with_reducible refine (CR.out).mono ?_); rintro e w1 ⟨A1, c1, rfl, hc1, hB1, b1⟩))
 have HB1 := Lib.hid hB1
 have hs1 := b1.size
 have Hb1 := Lib.hid b1
 clear hB1 b1
 go_loopw [5, 6] (fun v5 v6 wr => ScanAt l w1 v5 v6 wr) (fun _ v6 _ => l.length - (RowKit.intOf v6).toNat)
 case atStart => exact ⟨0, [], by omega, rfl, Lib.hid rfl, World.ownsRow_nil _ _ _ _, Lib.hid (Below.refl _ _), by simp⟩
 case round =>
  obtain ⟨k, ts, hk, rfl, hd, hown, HB, hts⟩ := hrel
  have HO := Lib.hid hown
  clear hown
  by_cases hlt : k < l.length
  ·obtain ⟨b, off, rfl, hb, hp⟩ := HB1.out (by omega)
   have HP : Hid (On w1 l b off) := Lib.hid hp
   clear hp
   have S0 := Lib.hid (tspaces_any l k b off c1 wr (by omega) hk (HP.out.below hb HB.out))
   have CN : Hid (∀ wx, Below w1.heap.size w1 wx -> ∀ k' : Nat, k' < l.length -> Calls Tryz.prog 59 #[.slice (some ⟨b, off, none⟩) l.length c1, .int .i64 k'] wx (Nexted (Tk.nxt l k') wx)) := Lib.hid fun wx hx k' hk' => tnext_any l k' b off c1 wx (by omega) hk' HN.out (Nat.lt_of_lt_of_le hb hx.size) (HP.out.below hb hx)
   have hsp := Tk.sp_le l k false hk
   have HD : Hid (Tk.scan l 0 = (ts ++ Tk.spTok (Tk.sp l k false).2) ++ Tk.scan l (Tk.sp l k false).1) := Lib.hid (by rw [hd.out, Tk.scan_gap hlt, List.append_assoc])
   have HS2 := Lib.hid (Tk.sp_again false false hk)
   clear hd HP
   generalize Tk.sp l k false = s at *
   obtain ⟨k1, sb⟩ := s
   simp only at HD S0 hsp HS2
   go_upto_if 27 with (go_at_call 58; ((with_reducible refine (S0.out).mono ?_); rintro e w' ⟨rfl, rfl⟩))
   go_cut [5] (fun s5 wc => MidAt w1 (ts ++ Tk.spTok sb) s5 wc)
   case first =>
    clear CN HD HS2
    have hc3 : ts.length + 1 <= maxLen := by unfold maxLen; omega
    have hc4 : (ts.length + 1) * 32 <= 140737488355328 := by omega
    cases sb
    ·go_wp2_with fail
     go_meet
     exact ⟨by simp only [Tk.spTok, Bool.false_eq_true, if_false, List.append_nil]; exact HO, HB⟩
    ·go_wp2_with (at_builtin; have E1 := HO.out.alloc (.cells #[.int .i64 (1), .string (⟨#[]⟩), .int .i64 (0)] 61); have E2 : w1.heap.size <= (wr.alloc (.cells #[.int .i64 (1), .string (⟨#[]⟩), .int .i64 (0)] 61)).heap.size := (by have := HB.out.size; simp; omega); refine wpList_append_own _ rfl _ _ 32 rfl w1.heap.size 61 i0 zTok 3 32 Tryz.underlying32 hi hz0 hz1 hz2 rfl (by decide) _ _ _ rfl E1 ⟨wr.heap.size, 0, none⟩ 1 1 [.int .i64 (1), .string (⟨#[]⟩), .int .i64 (0)] rfl rfl (three_cell _ _ (by simp) _ _ _) (three_ok _ _ _) hc3 hc4 E2 ?_; intro v' w3 hown3 hgrow _; have HO3 := Lib.hid (cells_next (t := (1, ⟨#[]⟩, 0)) hown3); have HB3 := Lib.hid ((HB.out.alloc HB.out.size (.cells #[.int .i64 (1), .string (⟨#[]⟩), .int .i64 (0)] 61)).grown hgrow E2 (fun x hx => (HO.out.lt x hx).1)); clear hown3 hgrow E1 E2)
     go_meet
     exact ⟨HO3, HB3⟩
   case rest =>
    obtain ⟨HO, HB⟩ := hcut
    have hl2 : (ts ++ Tk.spTok sb).length <= 2 * k + 1 := by have := Tk.spTok_len sb; rw [List.length_append]; omega
    generalize ts ++ Tk.spTok sb = us at *
    clear hts S0
    by_cases h2 : k1 < l.length
    ·have hnx := Tk.nxt_le h2
     have hc3 : us.length + 1 <= maxLen := by unfold maxLen; omega
     have hc4 : (us.length + 1) * 32 <= 140737488355328 := by omega
     have HE : Hid (Tk.scan l 0 = (us ++ [Tk.tokOf (Tk.nxt l k1)]) ++ Tk.scan l (Tk.nxt l k1).2.2.2) := Lib.hid (by
      have h3 := Tk.scan_on h2 (by rw [HS2.out]; exact h2)
      rw [HS2.out] at h3
      rw [HD.out, h3]; simp [Tk.spTok])
     have CX : Hid (∀ wx, Below w1.heap.size w1 wx -> Calls Tryz.prog 59 #[.slice (some ⟨b, off, none⟩) l.length c1, .int .i64 k1] wx (Nexted (Tk.nxt l k1) wx)) := Lib.hid fun wx hx => CN.out wx hx _ h2
     clear HD HS2 CN
     generalize Tk.nxt l k1 = r at *
     obtain ⟨rk, rt, rn, re⟩ := r
     simp only at HE CX hnx
     go_wp2_with (first | (go_at_call 59; have X := CX.out _ HB.out; (with_reducible refine X.mono ?_); clear X; rintro e w4 ⟨he, b4⟩; unfold tokV at he; subst he) | (at_builtin; have E1 := ((kept_below HO.out b4 (Nat.le_refl _)).alloc (.cells #[.int .i64 (rk), .string (rt), .int .i64 (rn)] 61)).alloc (.cells #[.int .i64 (rk), .string (rt), .int .i64 (rn)] 61); have E2 : w1.heap.size <= ((w4.alloc (.cells #[.int .i64 (rk), .string (rt), .int .i64 (rn)] 61)).alloc (.cells #[.int .i64 (rk), .string (rt), .int .i64 (rn)] 61)).heap.size := (by have := HB.out.size; have := b4.size; simp; omega); refine wpList_append_own _ rfl _ _ 32 rfl w1.heap.size 61 i0 zTok 3 32 Tryz.underlying32 hi hz0 hz1 hz2 rfl (by decide) _ _ _ rfl E1 ⟨w4.heap.size + 1, 0, none⟩ 1 1 [.int .i64 (rk), .string (rt), .int .i64 (rn)] rfl rfl (three_cell _ _ (by simp) _ _ _) (three_ok _ _ _) hc3 hc4 E2 ?_; intro v' w3 hown3 hgrow _; have HO3 := Lib.hid (cells_next (t := (rk, rt, rn)) hown3); have HB3 := Lib.hid ((((HB.out.trans (b4.mono HB.out.size)).alloc (Nat.le_trans HB.out.size b4.size) (.cells #[.int .i64 (rk), .string (rt), .int .i64 (rn)] 61)).alloc (by have := HB.out.size; have := b4.size; simp; omega) (.cells #[.int .i64 (rk), .string (rt), .int .i64 (rn)] 61)).grown hgrow E2 (fun x hx => (HO.out.lt x hx).1)); clear hown3 hgrow E1 E2))
     go_roundw
     case rel => exact ⟨re, us ++ [(rk, rt, rn)], hnx.2, rfl, HE, HO3.out, HB3, by simp; omega⟩
     case measure => simp [RowKit.intOf]; omega
    ·have HE : Hid (Tk.scan l 0 = us ++ Tk.scan l k1) := HD
     clear HD HS2 CN
     go_wp2_with fail
     go_roundw
     case rel => exact ⟨k1, us, hsp.2, rfl, HE, HO.out, HB, by omega⟩
     case measure => simp [RowKit.intOf]; omega
  ·have HD : Hid (Tk.scan l 0 = ts) := Lib.hid (by rw [hd.out, Tk.scan_end hlt, List.append_nil])
   clear hd
   have hk' : k = l.length := by omega
   obtain ⟨A5, c5, hv, _⟩ := row_slice HO.out
   subst hv
   go_wp2_with fail
   go_ret2
   exact ⟨_, rfl, by rw [HD.out]; exact own_le HO.out hs1, Hb1.out.trans (HB.out.mono hs1)⟩
theorem par_some (sd : List Tk.Tok -> Bool) (ts : List Tk.Tok) : ∃ l er, ParC sd ts l er := by
 by_cases hd : Ns.deep ts
 ·exact ⟨[], 3, .inl ⟨hd, rfl, rfl⟩⟩
 ·by_cases h : 1024 < (Rl.parse sd ts).length
  ·exact ⟨[], 2, .inr (.inl ⟨hd, h, rfl, rfl⟩)⟩
  ·exact ⟨_, 0, .inr (.inr ⟨hd, by omega, rfl, rfl⟩)⟩
theorem par_small {sd : List Tk.Tok -> Bool} {ts : List Tk.Tok} {l : List Rl.Rule} {er : Int} (h : ParC sd ts l er) (hm : ts.length <= 65536) : l.length <= 65536 /\ (∀ r ∈ l, RuOk r) /\ (er = 3 ∨ er = 2 ∨ er = 0) := by
 rcases h with ⟨_, rfl, rfl⟩ | ⟨_, _, rfl, rfl⟩ | ⟨_, h, rfl, rfl⟩
 ·exact ⟨Nat.zero_le _, fun r hr => (by cases hr), .inl rfl⟩
 ·exact ⟨Nat.zero_le _, fun r hr => (by cases hr), .inr (.inl rfl)⟩
 ·exact ⟨by omega, Rl.parse_ruok hm, .inr (.inr rfl)⟩
theorem lparse_any (l : List Int) (hl : Ru.By l) (A : Option Addr) (cap : Nat) (w : World) (hm : l.length <= cap) (hT : PTab w.heap.size w) (hB : BTab w.heap.size w) (hA : Bs w w.heap.size .u8 A l) :
 Calls Tryz.prog 3 #[.slice A l.length cap] w (Yes w) := by
 have CA : Hid (∀ W, Below w.heap.size w W -> Calls Tryz.prog 10 #[] W (Yes W)) := Lib.hid fun W hb => lawake_any W (hT.next hb) (hB.next hb)
 by_cases hbig : 600 < l.length
 ·have d1 : decide ((600 : Int) < (l.length : Int)) = true := decide_eq_true (by omega)
  clear hT hB hA
  go_enter Tryz.func3, Tryz.ntmps3
  go_wp2_with (go_at_call 10; ((with_reducible refine (CA.out _ (Below.refl _ _)).mono ?_); rintro e w1 ⟨rfl, b1⟩; have HB1 := Lib.hid b1; clear b1))
  go_ret
  exact ⟨rfl, HB1.out⟩
 ·have d1 : decide ((600 : Int) < (l.length : Int)) = false := decide_eq_false (by omega)
  have hrl := Ru.rd_len' l
  have hF : Pr.FairB (Tk.scan (Ru.rd l) 0) := Rl.scan_fair (by omega)
  have hwf : Pr.Wf (Tk.scan (Ru.rd l) 0) := Rl.scan_wf _
  obtain ⟨rl, er, hp⟩ := par_some Rl.sdU (Tk.scan (Ru.rd l) 0)
  obtain ⟨hs1, hs2, hs3⟩ := par_small hp (Nat.le_trans hF.1 (by decide))
  have CP : Hid (Calls Tryz.prog 11 #[.slice A l.length cap] w (ToldR rl er w)) := Lib.hid (cparse_any Rl.sdU (csound_any Rl.sdU Rl.sdU_is) _ hF hwf rl er hp A l.length cap w hT hB (scan_told6 l hl A cap w (by omega) hm hT.u hA))
  have CR : Hid (∀ W, Below w.heap.size w W -> Calls Tryz.prog 12 #[.slice A l.length cap] W (ToldR rl er W)) := Lib.hid fun W hb => rparse_any Rl.sdU Rl.sdU_c _ hF rl er hp A l.length cap W ((tscan_any l hl A cap W (by omega) hm (hA.next hb)).mono fun _ _ h => told3 h)
  have CS : Hid (∀ (A C : Option Addr) (ca cb : Nat) (W : World), Rl.Cells 4 (Rl.RulQ true) W A rl -> Rl.Cells 4 (Rl.RulQ true) W C rl -> Calls Tryz.prog 13 #[.slice A rl.length ca, .slice C rl.length cb] W (Bo true W)) := Lib.hid fun A C ca cb W h1 h2 => by
   have := same_rules true true rl rl A C ca cb W hs1 hs2 h1 h2
   rwa [decide_eq_true rfl] at this
  clear hT hB hA hp hF hwf hs1 hs2 hrl hs3
  go_enter Tryz.func3, Tryz.ntmps3
  go_wp2_with (first | (go_at_call 11; ((with_reducible refine (CP.out).mono ?_); rintro e w1 ⟨A1, c1, rfl, _, C1, _, b1⟩; have HB1 := Lib.hid b1; have HC1 := Lib.hid C1; clear b1 C1)) | (go_at_call 12; ((with_reducible refine (CR.out _ HB1.out).mono ?_); rintro e w2 ⟨A2, c2, rfl, _, C2, _, b2⟩; have HB2 := Lib.hid (below_next HB1.out b2); have HC2 := Lib.hid C2; have HC12 := Lib.hid (Rl.cells_next (Rl.keeps_rul true) HC1.out b2); clear b2 C2)) | (go_at_call 13; ((with_reducible refine (CS.out _ _ _ _ _ HC12.out HC2.out).mono ?_); rintro e w3 ⟨rfl, b3⟩; have HB3 := Lib.hid (below_next HB2.out b3); clear b3)) | (go_at_call 10; ((with_reducible refine (CA.out _ HB3.out).mono ?_); rintro e w4 ⟨rfl, b4⟩; have HB4 := Lib.hid (below_next HB3.out b4); clear b4)))
  go_ret
  exact ⟨rfl, HB4.out⟩
end Go.Proofs.YtkcabpjfgbghjaaGreatDoor
