/-
  The walk of Next: numbers.
-/
import Derived.Test.YtaofkaehhikfaaaGao
import Derived.Test.YtaofkaehhikfaaaGaa
import Derived.Test.YtaofkaehhikfaaaGam
import Derived.Test.YtaofkaehhikfaaaGal
import Derived.Test.YtaofkaehhikfaaaGan
import Derived.Deep.Cut
import Derived.Deep.CutRange
import Derived.Deep.DeepCutAuto
import Derived.Test.YtaofkaehhikfaaaGab
import Derived.Laws.StructEq
import Derived.Deep.QuietTactic
import Derived.BigQuiet
import Derived.LoopTactic
import Derived.IntWalk
set_option maxHeartbeats 16000000
set_option maxRecDepth 100000
namespace Go.Proofs.Ytaofkaehhikfaaa
open Go.RowKit
theorem tnext_num (l : List Int) (k : Nat) (b off cap : Nat) (w : World) (hm : l.length <= 65000) (hk : k < l.length) (hN : ∀ c ∈ l, 0 <= c) (hb : b < w.heap.size) (hp : On w l b off) (hc : Tk.numB (Ru.g l k) = true) (h0 : 0 < Tk.nlen l k) :
 Calls Try.prog 79 #[.slice (some ⟨b, off, none⟩) l.length cap, .int .i64 k] w (Nexted (Tk.nxt l k) w) := by
 have hcs := of_decide_eq_true hc
 have HD := Lib.hid (show Tk.nxt l k = if Tk.begs l (k + Tk.nlen l k) = true then (10, Tk.str (Tk.name l (k + Tk.nlen l k)).1, Tk.nval l k, (Tk.name l (k + Tk.nlen l k)).2) else if Tk.at' l (k + Tk.nlen l k) = 37 then (9, ⟨#[]⟩, Tk.nval l k, k + Tk.nlen l k + 1) else (8, ⟨#[]⟩, Tk.nval l k, k + Tk.nlen l k) by unfold Tk.nxt; rw [if_neg (by omega), if_neg (fun h => by omega), if_pos ⟨hc, h0⟩])
 have hn : Now w (w.alloc (.cells #[.int .i64 0, .string ⟨#[]⟩, .int .i64 0] 36)) := Now.refl w
 have hcell := hp k hk
 have HP := Lib.hid hp
 have CA : Hid (∀ wr, Now w wr -> AtIs l b off cap wr) := Lib.hid fun wr h => (at_is l b off cap wr (by omega) (h.on hb HP.out)).out
 have CE : Hid (∀ wr, Now w wr -> EscIs l b off cap wr) := Lib.hid fun wr h => (esc_is l b off cap wr (by omega) (h.on hb HP.out)).out
 have CB : Hid (∀ wr, Now w wr -> BegsIs l b off cap wr) := Lib.hid fun wr h => (begs_is l b off cap wr (by omega) (h.on hb HP.out)).out
 have CN : Hid (∀ wr, Now w wr -> ∀ (x : Int) (j : Nat), x = j -> j <= l.length -> Calls Try.prog 97 #[.slice (some ⟨b, off, none⟩) l.length cap, .int .i64 x] wr (Named l j wr)) := Lib.hid fun wr h x j hx hj => tname_any l x j hx b off cap wr (by omega) hj (h.lt hb) (h.on hb HP.out)
 have CS := Lib.hid (tascii_any l k b off cap (w.alloc (.cells #[.int .i64 0, .string ⟨#[]⟩, .int .i64 0] 36)) (by omega) (by omega) hN (hn.lt hb) (hn.on hb hp))
 have CL : Hid (∀ wr, Calls Try.prog 99 #[.string (strOfNums (Tk.ascL l k))] wr fun e w' => e = .returned (.int .i64 (Tk.nlen l k : Nat)) /\ wr = w') := rlength_is _ (by have := Tk.ascL_len l k; rw [strOfNums_size]; omega)
 clear hp hN
 have hsz : Tk.nlen l k <= (strOfNums (Tk.ascL l k)).size := by
  have := Fx.len_hi (Tk.numL l k)
  unfold Tk.nlen
  unfold Tk.numL at this ⊢
  rw [Lib.size_eq]
  exact this
 have hle := Tk.nlen_le l k (by omega)
 have hs9 : (strOfNums (Tk.ascL l k)).size <= 65000 := by have := Tk.ascL_len l k; rw [strOfNums_size]; omega
 have CP : Hid (∀ wr, Calls Try.prog 100 #[.string ((strOfNums (Tk.ascL l k)).extract 0 (Tk.nlen l k))] wr (Pv (Tk.nval l k) wr)) := Lib.hid fun wr => by
  have h := rparse_pv ((strOfNums (Tk.ascL l k)).extract 0 (Tk.nlen l k)) wr (by rw [ByteArray.size_extract]; omega)
  have hx : ((strOfNums (Tk.ascL l k)).extract 0 (Tk.nlen l k)).data.toList = (Tk.numL l k).take (Tk.nlen l k) := by rw [Lib.extract_data]; simp; rfl
  rw [hx] at h
  exact h
 rw [HD.out]
 clear HD hc
 generalize strOfNums (Tk.ascL l k) = s at *
 generalize Tk.nlen l k = n at *
 generalize Ru.g l k = c at *
 generalize Tk.nval l k = v at *
 have hR3 : True = True := rfl
 have hnm := (Tk.name_le l _ (k + n) (Nat.le_refl _) hle).2
 by_cases hR1 : Tk.begs l (k + n) = true
 ·rw [if_pos hR1]
  have hR2 : True = True := rfl
  rcases hcs with rfl | rfl | rfl | ⟨d1, d2⟩
  case' inr.inr.inr =>
   have e34 : (c == 34) = false := beq_false_of_ne (by omega)
   have e39 : (c == 39) = false := beq_false_of_ne (by omega)
   have e35 : (c == 35) = false := beq_false_of_ne (by omega)
   have e43 : (c == 43) = false := beq_false_of_ne (by omega)
   have e45 : (c == 45) = false := beq_false_of_ne (by omega)
   have e46 : (c == 46) = false := beq_false_of_ne (by omega)
   have g1 : decide (48 <= c) = true := decide_eq_true d1
   have g2 : decide (c <= 57) = true := decide_eq_true d2
  all_goals
   go_enter Try.func79, Try.ntmps79
   go_wp2_with (first | (go_at_call 98; have X := CS.out; (with_reducible refine X.mono ?_); clear X; rintro e w1 ⟨he, b1⟩; (first | rw [hR1] at he | rw [hR2] at he | rw [hR3] at he | skip); subst he; have hn1 := hn.next b1) | (go_at_call 99; have X := CL.out w1; (with_reducible refine X.mono ?_); clear X; rintro e w' ⟨he, rfl⟩; (first | rw [hR1] at he | rw [hR2] at he | rw [hR3] at he | skip); subst he) | (go_at_call 100; have X := CP.out w1; (with_reducible refine X.mono ?_); clear X; rintro e w3 ⟨ok, he, b3⟩; subst he; have hn3 := hn1.next b3; obtain ⟨z0, z1, z2, f0, f1, f2⟩ := tok_cells hn3) | (go_at_call 101; have X := CB.out _ hn3 ((k : Int) + n) (k + n) (by omega) (by omega); (with_reducible refine X.mono ?_); clear X; rintro e w' ⟨he, rfl⟩; (first | rw [hR1] at he | rw [hR2] at he | rw [hR3] at he | skip); subst he) | (go_at_call 97; have X := CN.out _ hn3 ((k : Int) + n) (k + n) (by omega) (by omega); (with_reducible refine X.mono ?_); clear X; rintro e w2 ⟨he, b2⟩; (first | rw [hR1] at he | rw [hR2] at he | rw [hR3] at he | skip); subst he; have hb2 := hn3.next b2; obtain ⟨z0, z1, z2, f0, f1, f2⟩ := tok_cells hb2) | (go_at_call 93; have X := CA.out _ hn3 ((k : Int) + n) (k + n) (by omega); (with_reducible refine X.mono ?_); clear X; rintro e w' ⟨he, rfl⟩; (first | rw [hR1] at he | rw [hR2] at he | rw [hR3] at he | skip); subst he))
   refine bodyPost_ret (v := .tuple #[tokV (10) (Tk.str (Tk.name l (k + n)).1) (v), .int .i64 (((Tk.name l (k + n)).2 : Nat))]) (by simp [results, tokV, Try.results79, go_sem, z0, z1, z2]) rfl (nexted rfl rfl hb2 _ _ _)
 ·rw [if_neg hR1]
  replace hR1 : Tk.begs l (k + n) = false := by rw [Bool.eq_false_iff]; exact hR1
  by_cases hR2 : Tk.at' l (k + n) = 37
  ·rw [if_pos hR2]
   rcases hcs with rfl | rfl | rfl | ⟨d1, d2⟩
   case' inr.inr.inr =>
    have e34 : (c == 34) = false := beq_false_of_ne (by omega)
    have e39 : (c == 39) = false := beq_false_of_ne (by omega)
    have e35 : (c == 35) = false := beq_false_of_ne (by omega)
    have e43 : (c == 43) = false := beq_false_of_ne (by omega)
    have e45 : (c == 45) = false := beq_false_of_ne (by omega)
    have e46 : (c == 46) = false := beq_false_of_ne (by omega)
    have g1 : decide (48 <= c) = true := decide_eq_true d1
    have g2 : decide (c <= 57) = true := decide_eq_true d2
   all_goals
    go_enter Try.func79, Try.ntmps79
    go_wp2_with (first | (go_at_call 98; have X := CS.out; (with_reducible refine X.mono ?_); clear X; rintro e w1 ⟨he, b1⟩; (first | rw [hR1] at he | rw [hR2] at he | rw [hR3] at he | skip); subst he; have hn1 := hn.next b1) | (go_at_call 99; have X := CL.out w1; (with_reducible refine X.mono ?_); clear X; rintro e w' ⟨he, rfl⟩; (first | rw [hR1] at he | rw [hR2] at he | rw [hR3] at he | skip); subst he) | (go_at_call 100; have X := CP.out w1; (with_reducible refine X.mono ?_); clear X; rintro e w3 ⟨ok, he, b3⟩; subst he; have hn3 := hn1.next b3; obtain ⟨z0, z1, z2, f0, f1, f2⟩ := tok_cells hn3) | (go_at_call 101; have X := CB.out _ hn3 ((k : Int) + n) (k + n) (by omega) (by omega); (with_reducible refine X.mono ?_); clear X; rintro e w' ⟨he, rfl⟩; (first | rw [hR1] at he | rw [hR2] at he | rw [hR3] at he | skip); subst he) | (go_at_call 97; have X := CN.out _ hn3 ((k : Int) + n) (k + n) (by omega) (by omega); (with_reducible refine X.mono ?_); clear X; rintro e w2 ⟨he, b2⟩; (first | rw [hR1] at he | rw [hR2] at he | rw [hR3] at he | skip); subst he; have hb2 := hn3.next b2; obtain ⟨z0, z1, z2, f0, f1, f2⟩ := tok_cells hb2) | (go_at_call 93; have X := CA.out _ hn3 ((k : Int) + n) (k + n) (by omega); (with_reducible refine X.mono ?_); clear X; rintro e w' ⟨he, rfl⟩; (first | rw [hR1] at he | rw [hR2] at he | rw [hR3] at he | skip); subst he))
    refine bodyPost_ret (v := .tuple #[tokV (9) (⟨#[]⟩) (v), .int .i64 ((k : Int) + n + 1)]) (by simp [results, tokV, Try.results79, go_sem, z0, z1, z2]) rfl (nexted rfl (by omega) hn3 _ _ _)
  ·rw [if_neg hR2]
   have e37 := beq_false_of_ne hR2
   rcases hcs with rfl | rfl | rfl | ⟨d1, d2⟩
   case' inr.inr.inr =>
    have e34 : (c == 34) = false := beq_false_of_ne (by omega)
    have e39 : (c == 39) = false := beq_false_of_ne (by omega)
    have e35 : (c == 35) = false := beq_false_of_ne (by omega)
    have e43 : (c == 43) = false := beq_false_of_ne (by omega)
    have e45 : (c == 45) = false := beq_false_of_ne (by omega)
    have e46 : (c == 46) = false := beq_false_of_ne (by omega)
    have g1 : decide (48 <= c) = true := decide_eq_true d1
    have g2 : decide (c <= 57) = true := decide_eq_true d2
   all_goals
    go_enter Try.func79, Try.ntmps79
    go_wp2_with (first | (go_at_call 98; have X := CS.out; (with_reducible refine X.mono ?_); clear X; rintro e w1 ⟨he, b1⟩; (first | rw [hR1] at he | rw [hR2] at he | rw [hR3] at he | skip); subst he; have hn1 := hn.next b1) | (go_at_call 99; have X := CL.out w1; (with_reducible refine X.mono ?_); clear X; rintro e w' ⟨he, rfl⟩; (first | rw [hR1] at he | rw [hR2] at he | rw [hR3] at he | skip); subst he) | (go_at_call 100; have X := CP.out w1; (with_reducible refine X.mono ?_); clear X; rintro e w3 ⟨ok, he, b3⟩; subst he; have hn3 := hn1.next b3; obtain ⟨z0, z1, z2, f0, f1, f2⟩ := tok_cells hn3) | (go_at_call 101; have X := CB.out _ hn3 ((k : Int) + n) (k + n) (by omega) (by omega); (with_reducible refine X.mono ?_); clear X; rintro e w' ⟨he, rfl⟩; (first | rw [hR1] at he | rw [hR2] at he | rw [hR3] at he | skip); subst he) | (go_at_call 97; have X := CN.out _ hn3 ((k : Int) + n) (k + n) (by omega) (by omega); (with_reducible refine X.mono ?_); clear X; rintro e w2 ⟨he, b2⟩; (first | rw [hR1] at he | rw [hR2] at he | rw [hR3] at he | skip); subst he; have hb2 := hn3.next b2; obtain ⟨z0, z1, z2, f0, f1, f2⟩ := tok_cells hb2) | (go_at_call 93; have X := CA.out _ hn3 ((k : Int) + n) (k + n) (by omega); (with_reducible refine X.mono ?_); clear X; rintro e w' ⟨he, rfl⟩; (first | rw [hR1] at he | rw [hR2] at he | rw [hR3] at he | skip); subst he))
    refine bodyPost_ret (v := .tuple #[tokV (8) (⟨#[]⟩) (v), .int .i64 ((k : Int) + n)]) (by simp [results, tokV, Try.results79, go_sem, z0, z1, z2]) rfl (nexted rfl (by omega) hn3 _ _ _)
theorem tnext_any (l : List Int) (k : Nat) (b off cap : Nat) (w : World) (hm : l.length <= 65000) (hk : k < l.length) (hN : ∀ c ∈ l, 0 <= c) (hb : b < w.heap.size) (hp : On w l b off) :
 Calls Try.prog 79 #[.slice (some ⟨b, off, none⟩) l.length cap, .int .i64 k] w (Nexted (Tk.nxt l k) w) := by
 by_cases c1 : Ru.g l k = 34 ∨ Ru.g l k = 39
 ·exact tnext_quote l k b off cap w hm hk hN hb hp c1
 by_cases c2 : Ru.g l k = 35 /\ (Ru.witB (Tk.at' l (k + 1)) = true ∨ Tk.esc l (k + 1) = true)
 ·exact tnext_hash l k b off cap w hm hk hN hb hp c2.1 c2.2
 by_cases c3 : Tk.numB (Ru.g l k) = true /\ 0 < Tk.nlen l k
 ·exact tnext_num l k b off cap w hm hk hN hb hp c3.1 c3.2
 have hpast : Tk.Past l k := ⟨fun h => c1 (.inl h), fun h => c1 (.inr h),
  fun h => ⟨by rw [Bool.eq_false_iff]; exact fun h2 => c2 ⟨h, .inl h2⟩, by rw [Bool.eq_false_iff]; exact fun h2 => c2 ⟨h, .inr h2⟩⟩,
  fun h => Nat.eq_zero_of_not_pos fun h2 => c3 ⟨h, h2⟩⟩
 by_cases c4 : Ru.g l k = 64 /\ Tk.begs l (k + 1) = true
 ·exact tnext_atkey l k b off cap w hm hk hN hb hp c4.1 c4.2
 have h64 : Ru.g l k = 64 -> Tk.begs l (k + 1) = false := fun h => by rw [Bool.eq_false_iff]; exact fun h2 => c4 ⟨h, h2⟩
 by_cases c5 : Tk.begs l k = true
 ·exact tnext_name l k b off cap w hm hk hN hb hp hpast c5 h64
 have hb0 : Tk.begs l k = false := by rw [Bool.eq_false_iff]; exact c5
 by_cases c6 : Ru.g l k = 58
 ·exact tnext_colon l k b off cap w hm hk hN hb hp c6
 by_cases c7 : Ru.g l k = 59
 ·exact tnext_semi l k b off cap w hm hk hN hb hp c7
 by_cases c8 : Ru.g l k = 44
 ·exact tnext_comma l k b off cap w hm hk hN hb hp c8
 exact tnext_sym l k b off cap w hm hk hN hb hp hpast hb0 h64 c6 c7 c8
namespace Ru
theorem rd_len' (l : List Int) : (rd l).length <= l.length := rd_len _ _
theorem rd_ok {l : List Int} (h : By l) : ∀ c ∈ rd l, Is c /\ c ≠ 0 /\ c ≠ 12 /\ c ≠ 13 := rd_is _ _ h
theorem ok_range {l : List Int} (h : ∀ c ∈ l, Is c /\ c ≠ 0 /\ c ≠ 12 /\ c ≠ 13) : ∀ c ∈ l, -2147483648 <= c /\ c <= 2147483647 := fun c hc => by
 have := (h c hc).1
 unfold Is at this
 omega
end Ru
namespace Tk
theorem rd_chr {bl : List Int} (h : Ru.By bl) : ∀ c ∈ Ru.rd bl, 0 <= c /\ c <= 1114111 := fun c hc => by
 have := (Ru.rd_ok h c hc).1
 unfold Ru.Is at this
 omega
end Tk
def TSpAt (l : List Int) (k0 : Nat) (v1 v6 : Value) : Prop := ∃ (k : Nat) (b : Bool), k <= l.length /\ v1 = .int .i64 k /\ v6 = .bool b /\ Hid (Tk.sp l k0 false = Tk.sp l k b)
def CmtAt (l : List Int) (j0 : Nat) (v1 : Value) : Prop := ∃ j : Nat, j0 <= j /\ j <= l.length /\ v1 = .int .i64 j /\ Hid (Tk.cmtE l j0 = Tk.cmtE l j)
theorem ret_ib {k1 : IntKind} {a c : Int} {b d : Bool} (h1 : a = c) (h2 : b = d) : Ending.returned (.tuple #[.int k1 a, .bool b]) = .returned (.tuple #[.int k1 c, .bool d]) := by rw [h1, h2]
theorem tspaces_any (l : List Int) (k0 : Nat) (b off cap : Nat) (w : World) (hm : l.length <= 65536) (hk0 : k0 <= l.length) (hp : On w l b off) :
 Calls Try.prog 78 #[.slice (some ⟨b, off, none⟩) l.length cap, .int .i64 k0] w fun e w' => e = .returned (.tuple #[.int .i64 ((Tk.sp l k0 false).1 : Nat), .bool (Tk.sp l k0 false).2]) /\ w = w' := by
 have CT := at_is l b off cap w hm hp
 have HP := Lib.hid hp
 clear hp
 go_enter Try.func78, Try.ntmps78
 go_wp2_with fail
 go_loop [1, 6] (fun v1 v6 => TSpAt l k0 v1 v6) (fun v1 _ => l.length - (RowKit.intOf v1).toNat)
 case atStart => exact ⟨k0, false, hk0, rfl, rfl, Lib.hid rfl⟩
 case round =>
  obtain ⟨k, bb, hk, rfl, rfl, HS⟩ := hrel
  have C0 := Lib.hid (CT.out _ k rfl)
  have C1 := Lib.hid (CT.out _ _ (cast1 k))
  cases hw : Ru.whiB (Tk.at' l k)
  ·by_cases h47 : Tk.at' l k = 47
   ·by_cases h42 : Tk.at' l (k + 1) = 42
    ·have ho : Tk.opn l k = true := by unfold Tk.opn; exact decide_eq_true ⟨h47, h42⟩
     have hlt := Tk.opn_lt ho
     have HX := Lib.hid (Tk.sp_opn (b := bb) hw ho)
     have hcl := Tk.cmt_le ho
     rw [h47] at C0 hw
     rw [h42] at C1
     clear ho h47 h42
     go_wp2_with (first | (go_at_call 93; first | ((with_reducible refine (C0.out).mono ?_); rintro e w' ⟨rfl, rfl⟩) | ((with_reducible refine (C1.out).mono ?_); rintro e w' ⟨rfl, rfl⟩)) | (go_at_call 92; ((with_reducible refine (twhite_any _ _).mono ?_); rintro e w' ⟨rfl, rfl⟩)))
     go_loop [1] (fun v1 => CmtAt l (k + 2) v1) (fun v1 => l.length - (RowKit.intOf v1).toNat)
     case atStart => exact ⟨k + 2, Nat.le_refl _, by omega, by go_num, Lib.hid rfl⟩
     case round =>
      obtain ⟨j, j1, j2, rfl, HC⟩ := hrel
      have D1 := Lib.hid (CT.out _ _ (cast1 j))
      by_cases hj : j < l.length
      ·have hcell := HP.out j hj
       by_cases g42 : Ru.g l j = 42
       ·by_cases g47 : Tk.at' l (j + 1) = 47
        ·have hE := Tk.cmtE_no (l := l) (j := j) (fun h => h.2 ⟨g42, g47⟩)
         have HJ : Hid (((Tk.cmt l k : Nat) : Int) = min ((j : Int) + 2) (l.length : Int)) := Lib.hid (by unfold Tk.cmt; rw [HC.out, hE]; omega)
         rw [g42] at hcell
         rw [g47] at D1
         clear g42 g47 hE
         go_wp2_with (go_at_call 93; ((with_reducible refine (D1.out).mono ?_); rintro e w' ⟨rfl, rfl⟩))
         go_round
         case rel => exact ⟨Tk.cmt l k, bb, hcl.2, by rw [HJ.out], rfl, Lib.hid (by rw [HS.out, HX.out])⟩
         case measure => simp [RowKit.intOf]; omega
        ·have hE := Lib.hid (Tk.cmtE_yes (l := l) (j := j) ⟨hj, fun h => g47 h.2⟩)
         have e47 := Ru.eq_f g47
         rw [g42] at hcell
         clear g42 g47
         go_wp2_with (go_at_call 93; ((with_reducible refine (D1.out).mono ?_); rintro e w' ⟨rfl, rfl⟩))
         go_round
         case rel => exact ⟨j + 1, by omega, by omega, by go_num, Lib.hid (by rw [HC.out, hE.out])⟩
         case measure => simp [RowKit.intOf]; omega
       ·have hE := Lib.hid (Tk.cmtE_yes (l := l) (j := j) ⟨hj, fun h => g42 h.1⟩)
        have e42 := Ru.eq_f g42
        clear g42
        generalize Ru.g l j = y at *
        go_wp2_with (go_at_call 93; ((with_reducible refine (D1.out).mono ?_); rintro e w' ⟨rfl, rfl⟩))
        go_round
        case rel => exact ⟨j + 1, by omega, by omega, by go_num, Lib.hid (by rw [HC.out, hE.out])⟩
        case measure => simp [RowKit.intOf]; omega
      ·have hE := Tk.cmtE_no (l := l) (j := j) (fun h => hj h.1)
       have HJ : Hid (((Tk.cmt l k : Nat) : Int) = min ((j : Int) + 2) (l.length : Int)) := Lib.hid (by unfold Tk.cmt; rw [HC.out, hE]; omega)
       clear hE
       go_wp2_with fail
       go_round
       case rel => exact ⟨Tk.cmt l k, bb, hcl.2, by rw [HJ.out], rfl, Lib.hid (by rw [HS.out, HX.out])⟩
       case measure => simp [RowKit.intOf]; omega
    ·have ho : Tk.opn l k = false := by unfold Tk.opn; exact decide_eq_false (fun h => h42 h.2)
     have HX := Lib.hid (Tk.sp_no (b := bb) hw ho)
     have e42 := Ru.eq_f h42
     rw [h47] at C0 hw
     clear ho h47 h42
     go_wp2_with (first | (go_at_call 93; first | ((with_reducible refine (C0.out).mono ?_); rintro e w' ⟨rfl, rfl⟩) | ((with_reducible refine (C1.out).mono ?_); rintro e w' ⟨rfl, rfl⟩)) | (go_at_call 92; ((with_reducible refine (twhite_any _ _).mono ?_); rintro e w' ⟨rfl, rfl⟩)))
     go_ret2
     exact ⟨ret_ib (by rw [HS.out, HX.out]) (by rw [HS.out, HX.out]), rfl⟩
   ·have ho : Tk.opn l k = false := by unfold Tk.opn; exact decide_eq_false (fun h => h47 h.1)
    have HX := Lib.hid (Tk.sp_no (b := bb) hw ho)
    have e47 := Ru.eq_f h47
    clear ho h47
    generalize Tk.at' l k = a at *
    go_wp2_with (first | (go_at_call 93; first | ((with_reducible refine (C0.out).mono ?_); rintro e w' ⟨rfl, rfl⟩) | ((with_reducible refine (C1.out).mono ?_); rintro e w' ⟨rfl, rfl⟩)) | (go_at_call 92; ((with_reducible refine (twhite_any _ _).mono ?_); rintro e w' ⟨rfl, rfl⟩)))
    go_ret2
    exact ⟨ret_ib (by rw [HS.out, HX.out]) (by rw [HS.out, HX.out]), rfl⟩
  ·have hlt := Tk.whi_lt hw
   have HX := Lib.hid (Tk.sp_white (b := bb) hw)
   generalize Tk.at' l k = a at *
   go_wp2_with (first | (go_at_call 93; first | ((with_reducible refine (C0.out).mono ?_); rintro e w' ⟨rfl, rfl⟩) | ((with_reducible refine (C1.out).mono ?_); rintro e w' ⟨rfl, rfl⟩)) | (go_at_call 92; ((with_reducible refine (twhite_any _ _).mono ?_); rintro e w' ⟨rfl, rfl⟩)))
   go_round
   case rel => exact ⟨k + 1, true, by omega, by go_num, rfl, Lib.hid (by rw [HS.out, HX.out])⟩
   case measure => simp [RowKit.intOf]; omega
def ScanAt (l : List Int) (w1 : World) (v5 v6 : Value) (wr : World) : Prop :=
 ∃ (k : Nat) (ts : List Tk.Tok), k <= l.length /\ v6 = .int .i64 k /\ Hid (Tk.scan l 0 = ts ++ Tk.scan l k) /\ wr.ownsRow w1.heap.size 36 3 v5 ts.length (Tk.cells ts) /\ Hid (Below w1.heap.size w1 wr) /\ ts.length <= 2 * k
def MidAt (w1 : World) (ts : List Tk.Tok) (v5 : Value) (wr : World) : Prop :=
 Hid (wr.ownsRow w1.heap.size 36 3 v5 ts.length (Tk.cells ts)) /\ Hid (Below w1.heap.size w1 wr)
theorem tscan_any (bl : List Int) (hl : Ru.By bl) (A : Option Addr) (cap : Nat) (w : World) (hm : bl.length <= 2000) (hcap : bl.length <= cap) (hA : Bs w w.heap.size .u8 A bl) :
 Calls Try.prog 58 #[.slice A bl.length cap] w (Toks (Tk.scan (Ru.rd bl) 0) w) := by
 obtain ⟨i0, hi, hz0, hz1, hz2⟩ := info_parts Try.infoTok
 have CR := Lib.hid ((rread_any bl hl A cap w (by omega) hcap hA).mono fun _ _ h => told h)
 have HN : Hid (∀ c ∈ Ru.rd bl, 0 <= c) := Lib.hid fun c hc => (Tk.rd_chr hl c hc).1
 have hm2 := Ru.rd_len' bl
 clear hA hl
 generalize Ru.rd bl = l at *
 go_enter Try.func58, Try.ntmps58
 go_wp2_with (go_at_call 77; ((with_reducible refine (CR.out).mono ?_); rintro e w1 ⟨A1, c1, rfl, hc1, hB1, b1⟩))
 have HB1 := Lib.hid hB1
 have hs1 := b1.size
 have Hb1 := Lib.hid b1
 clear hB1 b1
 go_loopw [5, 6] (fun v5 v6 wr => ScanAt l w1 v5 v6 wr) (fun _ v6 _ => l.length - (RowKit.intOf v6).toNat)
 case atStart => exact ⟨0, [], by omega, rfl, Lib.hid rfl, World.ownsRow_nil _ _ _ _, Lib.hid (Below.refl _ _), by simp⟩
 case round =>
  obtain ⟨k, ts, hk, rfl, hd, hown, HB, hts⟩ := hrel
  have HO := Lib.hid hown
  clear hown
  by_cases hlt : k < l.length
  ·obtain ⟨b, off, rfl, hb, hp⟩ := HB1.out (by omega)
   have HP : Hid (On w1 l b off) := Lib.hid hp
   clear hp
   have S0 := Lib.hid (tspaces_any l k b off c1 wr (by omega) hk (HP.out.below hb HB.out))
   have CN : Hid (∀ wx, Below w1.heap.size w1 wx -> ∀ k' : Nat, k' < l.length -> Calls Try.prog 79 #[.slice (some ⟨b, off, none⟩) l.length c1, .int .i64 k'] wx (Nexted (Tk.nxt l k') wx)) := Lib.hid fun wx hx k' hk' => tnext_any l k' b off c1 wx (by omega) hk' HN.out (Nat.lt_of_lt_of_le hb hx.size) (HP.out.below hb hx)
   have hsp := Tk.sp_le l k false hk
   have HD : Hid (Tk.scan l 0 = (ts ++ Tk.spTok (Tk.sp l k false).2) ++ Tk.scan l (Tk.sp l k false).1) := Lib.hid (by rw [hd.out, Tk.scan_gap hlt, List.append_assoc])
   have HS2 := Lib.hid (Tk.sp_again false false hk)
   clear hd HP
   generalize Tk.sp l k false = s at *
   obtain ⟨k1, sb⟩ := s
   simp only at HD S0 hsp HS2
   go_upto_if 27 with (go_at_call 78; ((with_reducible refine (S0.out).mono ?_); rintro e w' ⟨rfl, rfl⟩))
   go_cut [5] (fun s5 wc => MidAt w1 (ts ++ Tk.spTok sb) s5 wc)
   case first =>
    clear CN HD HS2
    have hc3 : ts.length + 1 <= maxLen := by unfold maxLen; omega
    have hc4 : (ts.length + 1) * 32 <= 140737488355328 := by omega
    cases sb
    ·go_wp2_with fail
     go_meet
     exact ⟨by simp only [Tk.spTok, Bool.false_eq_true, if_false, List.append_nil]; exact HO, HB⟩
    ·go_wp2_with (at_builtin; have E1 := HO.out.alloc (.cells #[.int .i64 (1), .string (⟨#[]⟩), .int .i64 (0)] 36); have E2 : w1.heap.size <= (wr.alloc (.cells #[.int .i64 (1), .string (⟨#[]⟩), .int .i64 (0)] 36)).heap.size := (by have := HB.out.size; simp; omega); refine wpList_append_own _ rfl _ _ 22 rfl w1.heap.size 36 i0 zTok 3 32 Try.underlying22 hi hz0 hz1 hz2 rfl (by decide) _ _ _ rfl E1 ⟨wr.heap.size, 0, none⟩ 1 1 [.int .i64 (1), .string (⟨#[]⟩), .int .i64 (0)] rfl rfl (three_cell _ _ (by simp) _ _ _) (three_ok _ _ _) hc3 hc4 E2 ?_; intro v' w3 hown3 hgrow _; have HO3 := Lib.hid (cells_next (t := (1, ⟨#[]⟩, 0)) hown3); have HB3 := Lib.hid ((HB.out.alloc HB.out.size (.cells #[.int .i64 (1), .string (⟨#[]⟩), .int .i64 (0)] 36)).grown hgrow E2 (fun x hx => (HO.out.lt x hx).1)); clear hown3 hgrow E1 E2)
     go_meet
     exact ⟨HO3, HB3⟩
   case rest =>
    obtain ⟨HO, HB⟩ := hcut
    have hl2 : (ts ++ Tk.spTok sb).length <= 2 * k + 1 := by have := Tk.spTok_len sb; rw [List.length_append]; omega
    generalize ts ++ Tk.spTok sb = us at *
    clear hts S0
    by_cases h2 : k1 < l.length
    ·have hnx := Tk.nxt_le h2
     have hc3 : us.length + 1 <= maxLen := by unfold maxLen; omega
     have hc4 : (us.length + 1) * 32 <= 140737488355328 := by omega
     have HE : Hid (Tk.scan l 0 = (us ++ [Tk.tokOf (Tk.nxt l k1)]) ++ Tk.scan l (Tk.nxt l k1).2.2.2) := Lib.hid (by
      have h3 := Tk.scan_on h2 (by rw [HS2.out]; exact h2)
      rw [HS2.out] at h3
      rw [HD.out, h3]; simp [Tk.spTok])
     have CX : Hid (∀ wx, Below w1.heap.size w1 wx -> Calls Try.prog 79 #[.slice (some ⟨b, off, none⟩) l.length c1, .int .i64 k1] wx (Nexted (Tk.nxt l k1) wx)) := Lib.hid fun wx hx => CN.out wx hx _ h2
     clear HD HS2 CN
     generalize Tk.nxt l k1 = r at *
     obtain ⟨rk, rt, rn, re⟩ := r
     simp only at HE CX hnx
     go_wp2_with (first | (go_at_call 79; have X := CX.out _ HB.out; (with_reducible refine X.mono ?_); clear X; rintro e w4 ⟨he, b4⟩; unfold tokV at he; subst he) | (at_builtin; have E1 := ((kept_below HO.out b4 (Nat.le_refl _)).alloc (.cells #[.int .i64 (rk), .string (rt), .int .i64 (rn)] 36)).alloc (.cells #[.int .i64 (rk), .string (rt), .int .i64 (rn)] 36); have E2 : w1.heap.size <= ((w4.alloc (.cells #[.int .i64 (rk), .string (rt), .int .i64 (rn)] 36)).alloc (.cells #[.int .i64 (rk), .string (rt), .int .i64 (rn)] 36)).heap.size := (by have := HB.out.size; have := b4.size; simp; omega); refine wpList_append_own _ rfl _ _ 22 rfl w1.heap.size 36 i0 zTok 3 32 Try.underlying22 hi hz0 hz1 hz2 rfl (by decide) _ _ _ rfl E1 ⟨w4.heap.size + 1, 0, none⟩ 1 1 [.int .i64 (rk), .string (rt), .int .i64 (rn)] rfl rfl (three_cell _ _ (by simp) _ _ _) (three_ok _ _ _) hc3 hc4 E2 ?_; intro v' w3 hown3 hgrow _; have HO3 := Lib.hid (cells_next (t := (rk, rt, rn)) hown3); have HB3 := Lib.hid ((((HB.out.trans (b4.mono HB.out.size)).alloc (Nat.le_trans HB.out.size b4.size) (.cells #[.int .i64 (rk), .string (rt), .int .i64 (rn)] 36)).alloc (by have := HB.out.size; have := b4.size; simp; omega) (.cells #[.int .i64 (rk), .string (rt), .int .i64 (rn)] 36)).grown hgrow E2 (fun x hx => (HO.out.lt x hx).1)); clear hown3 hgrow E1 E2))
     go_roundw
     case rel => exact ⟨re, us ++ [(rk, rt, rn)], hnx.2, rfl, HE, HO3.out, HB3, by simp; omega⟩
     case measure => simp [RowKit.intOf]; omega
    ·have HE : Hid (Tk.scan l 0 = us ++ Tk.scan l k1) := HD
     clear HD HS2 CN
     go_wp2_with fail
     go_roundw
     case rel => exact ⟨k1, us, hsp.2, rfl, HE, HO.out, HB, by omega⟩
     case measure => simp [RowKit.intOf]; omega
  ·have HD : Hid (Tk.scan l 0 = ts) := Lib.hid (by rw [hd.out, Tk.scan_end hlt, List.append_nil])
   clear hd
   have hk' : k = l.length := by omega
   obtain ⟨A5, c5, hv, _⟩ := row_slice HO.out
   subst hv
   go_wp2_with fail
   go_ret2
   exact ⟨_, rfl, by rw [HD.out]; exact own_le HO.out hs1, Hb1.out.trans (HB.out.mono hs1)⟩
end Go.Proofs.Ytaofkaehhikfaaa
namespace Go.Proofs.Ytaofkaehhikfaaa
open Go.RowKit Vl
namespace Vl
def ScIs (ts : List Tk.Tok) (w : World) (e : Ending) (w' : World) : Prop := ∃ (A : Option Addr) (cap : Nat), e = .returned (.slice A ts.length cap) /\ ts.length <= cap /\ Ts w' w'.heap.size A ts /\ Below w.heap.size w w'
theorem it_at {w : World} {A : Option Addr} {l : List Itm} (h : Rl.Cells 5 ItQ w A l) {i : Nat} (hi : i < l.length) :
 ∃ b off, A = some ⟨b, off, none⟩ /\ b < w.heap.size /\ ∀ j, j < l.length -> w.cell? ⟨b, off + j * 5, none⟩ = some (.int .i64 (l.getD j (0, ⟨#[]⟩, ⟨#[]⟩, 0, 0)).1) /\ w.cell? ⟨b, off + j * 5 + 1, none⟩ = some (.string (l.getD j (0, ⟨#[]⟩, ⟨#[]⟩, 0, 0)).2.1) /\ w.cell? ⟨b, off + j * 5 + 2, none⟩ = some (.string (l.getD j (0, ⟨#[]⟩, ⟨#[]⟩, 0, 0)).2.2.1) /\ w.cell? ⟨b, off + j * 5 + 3, none⟩ = some (.int .i64 (l.getD j (0, ⟨#[]⟩, ⟨#[]⟩, 0, 0)).2.2.2.1) /\ w.cell? ⟨b, off + j * 5 + 4, none⟩ = some (.int .i64 (l.getD j (0, ⟨#[]⟩, ⟨#[]⟩, 0, 0)).2.2.2.2) := by
 obtain ⟨b, off, e, hb, hc⟩ := h (by omega)
 refine ⟨b, off, e, hb, fun j hj => ?_⟩
 obtain ⟨cs, _, rfl, h3⟩ := hc j hj
 rw [List.getD_eq_getElem?_getD, List.getElem?_eq_getElem hj, Option.getD_some]
 exact ⟨h3 0 _ rfl, h3 1 _ rfl, h3 2 _ rfl, h3 3 _ rfl, h3 4 _ rfl⟩
end Vl
theorem lscanned_any (x : ByteArray) (hx : x.size <= 2000) (ts : List Tk.Tok) (hs : Tk.scan (Ru.rd (Ru.bs x)) 0 = ts) (w : World) :
 Calls Try.prog 33 #[.string x] w (ScIs ts w) := by
 obtain ⟨C, w0, h1, h2, _, h4, h5⟩ := bytes_of x w
 have hl := Ru.bs_len x
 have hB : Bs w0 w0.heap.size .u8 (some ⟨w.heap.size, 0, none⟩) (Ru.bs x) := fun h0 => ⟨w.heap.size, 0, rfl, by
  have hc := h2 0 (by omega)
  exact World.block_lt_of_cell? w0 ⟨w.heap.size, 0, none⟩ hc, fun j hj => by rw [Nat.zero_add]; exact h2 j (by omega)⟩
 have CS : Hid (Calls Try.prog 58 #[.slice (some ⟨w.heap.size, 0, none⟩) x.size C] w0 (Told3 ts w0)) := Lib.hid (by
  have h := tscan_any (Ru.bs x) (Ru.bs_by x) (some ⟨w.heap.size, 0, none⟩) C w0 (by omega) (by omega) hB
  rw [hl, hs] at h
  exact h.mono fun _ _ h => told3 h)
 have HB := Lib.hid h4
 clear hB h2 h4 hs
 go_enter Try.func33, Try.ntmps33
 go_wp2_with (go_at_call 58; ((with_reducible refine (CS.out).mono ?_); rintro e w1 ⟨A1, c1, rfl, hc1, T1, b1⟩; have HB1 := Lib.hid (below_next HB.out b1); have HT1 := Lib.hid T1; clear b1 T1))
 go_ret
 exact ⟨A1, c1, rfl, hc1, HT1.out, HB1.out⟩
theorem lawake_any (w : World) : Calls Try.prog 12 #[] w (Yes w) := by
 have C1 : Hid (∀ W, Calls Try.prog 33 #[.string vwS] W (ScIs vwT W)) := Lib.hid fun W => lscanned_any vwS (by decide) vwT vw_scan W
 have C2 : Hid (∀ W, Calls Try.prog 33 #[.string vrS] W (ScIs [(2, vrS, 0)] W)) := Lib.hid fun W => lscanned_any vrS (by decide) _ vr_scan W
 have CC : Hid (∀ A c W, Ts W W.heap.size A vwT -> Calls Try.prog 13 #[.slice A vwT.length c] W (ContIs ([(2, ⟨#[]⟩, ⟨#[99]⟩, 2, 0), (1, ⟨#[32, 111, 102, 32]⟩, ⟨#[]⟩, 0, 0), (2, ⟨#[]⟩, ⟨#[112, 97, 103, 101, 115]⟩, 0, 0)], false, true) W)) := Lib.hid fun A c W h => by
  have := ccontent_any vwT (by decide) (by decide) A c W h
  rwa [vw_content] at this
 have CB : Hid (∀ A c W, Ts W W.heap.size A [(2, vrS, 0)] -> Calls Try.prog 25 #[.slice A 1 c] W (LaIs (some 4) W)) := Lib.hid fun A c W h => by
  have := cbreak_any [(2, vrS, 0)] (by decide) (by decide) A c W h
  rwa [vr_break] at this
 have CY : Hid (∀ W, Calls Try.prog 31 #[.string ⟨#[85, 112, 112, 101, 114, 45, 76, 97, 116, 105, 110]⟩] W (Nu 5 W)) := Lib.hid fun W => by
  have := cstyle_any ⟨#[85, 112, 112, 101, 114, 45, 76, 97, 116, 105, 110]⟩ (by decide) W
  rwa [vu_style] at this
 go_enter Try.func12, Try.ntmps12
 go_wp2_with (first | (go_at_call 33; ((with_reducible refine (C1.out _).mono ?_); rintro e w1 ⟨A1, c1, rfl, hc1, T1, b1⟩; have HB1 := Lib.hid b1; have HT1 := Lib.hid T1; clear b1 T1)) | (go_at_call 13; ((with_reducible refine (CC.out _ _ _ HT1.out).mono ?_); rintro e w2 ⟨A2, c2, rfl, hc2, I2, b2⟩; have HB2 := Lib.hid (below_next HB1.out b2); obtain ⟨b, off, rfl, hb, hp⟩ := it_at I2 (i := 0) (by decide); have HP := Lib.hid hp; clear b2 I2 hp)) | (go_at_call 33; ((with_reducible refine (C2.out _).mono ?_); rintro e w3 ⟨A3, c3, rfl, hc3, T3, b3⟩; have HB3 := Lib.hid b3; have HT3 := Lib.hid T3; clear b3 T3)) | (go_at_call 25; ((with_reducible refine (CB.out _ _ _ HT3.out).mono ?_); rintro e w4 ⟨n, bb, rfl, b4, _, ho⟩; have hbel := below_next HB3.out b4; have HB4 := Lib.hid (below_next HB2.out hbel); obtain rfl : bb = true := (by cases bb <;> first | rfl | cases ho); obtain rfl : 4 = n := (by injection ho); obtain ⟨p0, p1, p2, p3, p4⟩ := HP.out 0 (by decide); obtain ⟨q0, q1, q2, q3, q4⟩ := HP.out 1 (by decide); replace p3 := (hbel.cell (p := ⟨b, off + 0 * 5 + 3, none⟩) hb).trans p3; replace q1 := (hbel.cell (p := ⟨b, off + 1 * 5 + 1, none⟩) hb).trans q1; have hb4 := Nat.lt_of_lt_of_le hb hbel.size; simp only [Nat.zero_mul, Nat.add_zero, Nat.one_mul] at p3 q1; clear hbel p0 p1 p2 p4 q0 q2 q3 q4 b4 ho)) | (go_at_call 31; ((with_reducible refine (CY.out _).mono ?_); rintro e w5 ⟨rfl, b5⟩; have HB5 := Lib.hid (below_next HB4.out b5); clear b5)))
 trace_state
 go_ret
 exact ⟨rfl, HB5.out⟩
end Go.Proofs.Ytaofkaehhikfaaa
namespace Go.Proofs.Ytaofkaehhikfaaa
open Go.RowKit Vl
theorem litems_any (l : List Itm) (A C : Option Addr) (ca cb : Nat) (w : World) (hm : l.length <= 1000000) (hA : Rl.Cells 5 ItQ w A l) (hC : Rl.Cells 5 ItQ w C l) :
 Calls Try.prog 15 #[.slice A l.length ca, .slice C l.length cb] w (Yes w) := by
 have HA := Lib.hid hA
 have HC := Lib.hid hC
 clear hA hC
 go_enter Try.func15, Try.ntmps15
 go_wp2_with fail
 go_loopw [13] (fun v13 wr => ∃ k : Nat, k <= l.length /\ v13 = .int .i64 k /\ Below w.heap.size w wr) (fun v13 _ => l.length - (RowKit.intOf v13).toNat)
 case atStart => exact ⟨0, Nat.zero_le _, rfl, Below.refl _ _⟩
 case round =>
  obtain ⟨k, hk, rfl, hb⟩ := hrel
  have HB := Lib.hid hb
  clear hb
  by_cases hlt : k < l.length
  ·obtain ⟨b, off, rfl, hb1, hp⟩ := it_at HA.out hlt
   obtain ⟨b2, off2, rfl, hb2, hp2⟩ := it_at HC.out hlt
   obtain ⟨p0, p1, p2, p3, p4⟩ := hp k hlt
   obtain ⟨q0, q1, q2, q3, q4⟩ := hp2 k hlt
   replace p0 := (HB.out.cell (p := ⟨b, off + k * 5, none⟩) hb1).trans p0
   replace p1 := (HB.out.cell (p := ⟨b, off + k * 5 + 1, none⟩) hb1).trans p1
   replace p2 := (HB.out.cell (p := ⟨b, off + k * 5 + 2, none⟩) hb1).trans p2
   replace p3 := (HB.out.cell (p := ⟨b, off + k * 5 + 3, none⟩) hb1).trans p3
   replace p4 := (HB.out.cell (p := ⟨b, off + k * 5 + 4, none⟩) hb1).trans p4
   replace q0 := (HB.out.cell (p := ⟨b2, off2 + k * 5, none⟩) hb2).trans q0
   replace q1 := (HB.out.cell (p := ⟨b2, off2 + k * 5 + 1, none⟩) hb2).trans q1
   replace q2 := (HB.out.cell (p := ⟨b2, off2 + k * 5 + 2, none⟩) hb2).trans q2
   replace q3 := (HB.out.cell (p := ⟨b2, off2 + k * 5 + 3, none⟩) hb2).trans q3
   replace q4 := (HB.out.cell (p := ⟨b2, off2 + k * 5 + 4, none⟩) hb2).trans q4
   clear hp hp2
   generalize l.getD k (0, ⟨#[]⟩, ⟨#[]⟩, 0, 0) = t at *
   obtain ⟨kd, tx, nm, st, wh⟩ := t
   simp only at p0 p1 p2 p3 p4 q0 q1 q2 q3 q4
   go_wp2_with fail
   go_quiet (fail)
   go_wp2_with fail
   go_roundw
   case rel => exact ⟨k + 1, by omega, by go_num, below_drewN HB.out _⟩
   case measure => simp [RowKit.intOf]; omega
  ·go_wp2_with fail
   go_ret
   exact ⟨rfl, HB.out⟩
end Go.Proofs.Ytaofkaehhikfaaa
namespace Go.Proofs.Ytaofkaehhikfaaa
open Go.RowKit
theorem few_any (us : List Tk.Tok) (hn : us.length <= 9223372036854775807) (b : Bool) (hb : b = true ↔ Pr.Fair us) (A : Option Addr) (cap : Nat) (w : World) (h : Ts w w.heap.size A us) :
 Calls Try.prog 11 #[.slice A us.length cap] w fun e w' => e = .returned (.bool b) /\ w = w' := by
 have H := Lib.hid h
 have HB := Lib.hid hb
 clear h hb
 go_enter Try.func11, Try.ntmps11
 go_wp2_with fail
 go_loopw [3] (fun v3 wr => ∃ k : Nat, k <= us.length /\ k <= 101 /\ v3 = .int .i64 k /\ Hid (∀ j, j < k -> (Tk.tk us j).2.1.size <= 100) /\ wr = w) (fun v3 _ => 101 - (RowKit.intOf v3).toNat)
 case atStart => exact ⟨0, Nat.zero_le _, by omega, rfl, Lib.hid (fun j hj => by omega), rfl⟩
 case round =>
  obtain ⟨k, hk, hk1, rfl, HK, rfl⟩ := hrel
  by_cases hlt : k < us.length
  ·have d1 : decide (k < us.length) = true := decide_eq_true hlt
   by_cases h100 : k <= 100
   ·have d2 : decide ((k : Int) <= 100) = true := decide_eq_true (by omega)
    have d2' : decide (k <= 100) = true := decide_eq_true h100
    obtain ⟨bb, off, rfl, hbb, hp⟩ := H.out (by omega)
    obtain ⟨_, p1, _⟩ := hp k hlt
    clear hp
    have HN : Hid (¬ (Tk.tk us k).2.1.size <= 100 -> b = false) := Lib.hid (fun hx => by
     cases b with
     | false => rfl
     | true => exact absurd ((HB.out.1 rfl).2 k hlt) hx)
    have HS : Hid ((Tk.tk us k).2.1.size <= 100 -> ∀ j, j < k + 1 -> (Tk.tk us j).2.1.size <= 100) := Lib.hid (fun hx j hj => by
     by_cases e : j = k
     ·subst e; exact hx
     ·exact HK.out j (by omega))
    generalize (Tk.tk us k).2.1 = t at *
    by_cases hz : t.size <= 100
    ·have d3 : decide (100 < (t.size : Int)) = false := decide_eq_false (by omega)
     have d3' : decide (100 < t.size) = false := decide_eq_false (by omega)
     have HV := Lib.hid (HS.out hz)
     clear HN HS hz
     have hwr : IntKind.i64.wrap ((k : Int) + 1) = (k : Int) + 1 := IntWalk.i64_in _ (by omega)
     go_wp2_with fail
     clear hwr
     go_roundw
     case rel => exact ⟨k + 1, hlt, by omega, by go_num, HV, trivial⟩
     case measure => simp [RowKit.intOf]; omega
    ·have d3 : decide (100 < (t.size : Int)) = true := decide_eq_true (by omega)
     have d3' : decide (100 < t.size) = true := decide_eq_true (by omega)
     have HV := Lib.hid (HN.out hz)
     clear HN HS hz
     go_wp2_with fail
     go_ret
     exact ⟨by rw [HV.out]; rfl, rfl⟩
   ·have d2 : decide ((k : Int) <= 100) = false := decide_eq_false (by omega)
    have d2' : decide (k <= 100) = false := decide_eq_false h100
    have d4 : decide ((us.length : Int) <= 100) = false := decide_eq_false (by omega)
    have d4' : decide (us.length <= 100) = false := decide_eq_false (by omega)
    have HV : Hid (b = false) := Lib.hid (by
     cases b with
     | false => rfl
     | true => have := (HB.out.1 rfl).1; omega)
    clear HB
    go_wp2_with fail
    go_ret
    exact ⟨by rw [HV.out]; rfl, rfl⟩
  ·have d1 : decide (k < us.length) = false := decide_eq_false hlt
   by_cases hl : us.length <= 100
   ·have d4 : decide ((us.length : Int) <= 100) = true := decide_eq_true (by omega)
    have d4' : decide (us.length <= 100) = true := decide_eq_true (by omega)
    have HV : Hid (b = true) := Lib.hid (HB.out.2 ⟨hl, fun j hj => HK.out j (by omega)⟩)
    clear HB
    go_wp2_with fail
    go_ret
    exact ⟨by rw [HV.out]; rfl, rfl⟩
   ·have d4 : decide ((us.length : Int) <= 100) = false := decide_eq_false (by omega)
    have d4' : decide (us.length <= 100) = false := decide_eq_false (by omega)
    have HV : Hid (b = false) := Lib.hid (by
     cases b with
     | false => rfl
     | true => have := (HB.out.1 rfl).1; omega)
    clear HB
    go_wp2_with fail
    go_ret
    exact ⟨by rw [HV.out]; rfl, rfl⟩
end Go.Proofs.Ytaofkaehhikfaaa
namespace Go.Proofs.Ytaofkaehhikfaaa
open Go.RowKit Vl
namespace Vl
theorem rcontent_len (v : List Tk.Tok) : (rcontent v).1.length <= v.length := by
 rw [<- content_same]
 unfold contentS
 split
 ·simp
 ·rw [its_at]
  cases hs : seqO (itmAt false (rd v)) (Ns.plc (Ns.ends (rd v)) (rd v).length 0) with
  | none => exact Nat.zero_le _
  | some o =>
    have h1 := seqO_len hs
    have h2 := Ns.plc_len (es := Ns.ends (rd v)) (tz := (rd v).length) _ 0 (Nat.le_refl _)
    have h3 := (rd_in (v := v)).1
    cases o with
    | nil => exact Nat.zero_le _
    | cons a b => show (a :: b).length <= _; omega
end Vl
theorem fair_few {us : List Tk.Tok} (h : Pr.Fair us) : us.length <= 100 /\ ∀ x ∈ us, x.2.1.size <= 100 := by
 refine ⟨h.1, fun x hx => ?_⟩
 obtain ⟨j, hj, rfl⟩ := List.mem_iff_getElem.1 hx
 have := h.2 j hj
 rwa [Tk.tk_eq hj] at this
theorem lcontent_any (us : List Tk.Tok) (hn : us.length <= 9223372036854775807) (A : Option Addr) (cap : Nat) (hcap : us.length <= cap) (w : World) (h : Ts w w.heap.size A us) :
 Calls Try.prog 3 #[.slice A us.length cap] w (Yes w) := by
 have CA := Lib.hid lawake_any
 have fw : ∀ (b : Bool), (b = true ↔ Pr.Fair us) -> Calls Try.prog 11 #[.slice A us.length cap] w fun e w' => e = .returned (.bool b) /\ w = w' := fun b hb => few_any us hn b hb A cap w h
 by_cases hF : Pr.Fair us
 ·have CF := Lib.hid (fw true ⟨fun _ => hF, fun _ => rfl⟩)
  obtain ⟨hm, hs⟩ := fair_few hF
  have hs' : ∀ x ∈ us, x.2.1.size <= 90000 := fun x hx => by have := hs x hx; omega
  have CC : Hid (Calls Try.prog 13 #[.slice A us.length cap] w (ContIs (rcontent us) w)) := Lib.hid (ccontent_any us (by omega) hs' A cap w h)
  have CR : Hid (∀ W, Below w.heap.size w W -> Calls Try.prog 14 #[.slice A us.length cap] W (ContIs (rcontent us) W)) := Lib.hid fun W hb => vcontent_any us (by omega) hs' A cap hcap W (h.next hb)
  have CI : Hid (∀ A C ca cb W, Rl.Cells 5 ItQ W A (rcontent us).1 -> Rl.Cells 5 ItQ W C (rcontent us).1 -> Calls Try.prog 15 #[.slice A (rcontent us).1.length ca, .slice C (rcontent us).1.length cb] W (Yes W)) := Lib.hid fun A C ca cb W h1 h2 => litems_any _ A C ca cb W (by have := rcontent_len us; omega) h1 h2
  clear fw hF h hs hs' hm
  generalize rcontent us = r at *
  obtain ⟨l, x, y⟩ := r
  simp only at *
  have ex : (x == x) = true := beq_self_eq_true x
  have ey : (y == y) = true := beq_self_eq_true y
  go_enter Try.func3, Try.ntmps3
  go_wp2_with (first | (go_at_call 11; ((with_reducible refine (CF.out).mono ?_); rintro e w1 ⟨rfl, rfl⟩)) | (go_at_call 13; ((with_reducible refine (CC.out).mono ?_); rintro e w2 ⟨A2, c2, rfl, hc2, I2, b2⟩; have HB2 := Lib.hid b2; have HI2 := Lib.hid I2; clear b2 I2)) | (go_at_call 14; ((with_reducible refine (CR.out _ HB2.out).mono ?_); rintro e w3 ⟨A3, c3, rfl, hc3, I3, b3⟩; have HB3 := Lib.hid (below_next HB2.out b3); have HI3 := Lib.hid I3; have HI2 := Lib.hid (Rl.cells_next keeps_it HI2.out b3); clear b3 I3)) | (go_at_call 15; ((with_reducible refine (CI.out _ _ _ _ _ HI2.out HI3.out).mono ?_); rintro e w4 ⟨rfl, b4⟩; have HB4 := Lib.hid (below_next HB3.out b4); clear b4)) | (go_at_call 12; ((with_reducible refine (CA.out _).mono ?_); rintro e w5 ⟨rfl, b5⟩; have HB5 := Lib.hid (below_next HB4.out b5); clear b5)))
  go_ret
  exact ⟨rfl, HB5.out⟩
 ·have CF := Lib.hid (fw false ⟨fun h => (by cases h), fun h => absurd h hF⟩)
  clear fw hF h
  go_enter Try.func3, Try.ntmps3
  go_wp2_with (first | (go_at_call 11; ((with_reducible refine (CF.out).mono ?_); rintro e w1 ⟨rfl, rfl⟩)) | (go_at_call 12; ((with_reducible refine (CA.out _).mono ?_); rintro e w5 ⟨rfl, b5⟩; have HB5 := Lib.hid b5; clear b5)))
  go_ret
  exact ⟨rfl, HB5.out⟩
end Go.Proofs.Ytaofkaehhikfaaa
