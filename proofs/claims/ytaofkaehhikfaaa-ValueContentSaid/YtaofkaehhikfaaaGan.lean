/-
  The walk of the reference's begins.
-/
import Derived.Test.YtaofkaehhikfaaaGam
import Derived.Test.YtaofkaehhikfaaaGaa
import Derived.Test.YtaofkaehhikfaaaGad
import Derived.Test.YtaofkaehhikfaaaGal
import Derived.WalkSpells
import Derived.WalkLawsBesides
import Derived.Deep.Cut
import Derived.Deep.CutRange
import Derived.Deep.DeepCutAuto
set_option maxHeartbeats 16000000
set_option maxRecDepth 100000
namespace Go.Proofs.Ytaofkaehhikfaaa
open Go.RowKit
namespace Ru
def bgB (n k : Nat) (L : Int) (l : List Int) : Bool := decide (L = need (g l 0) /\ (k : Int) <= mm n (g l 0) (g l 1) (g l 2) (g l 3))
end Ru
theorem begins_two (n k : Nat) (l : List Int) (b off cap : Nat) (w : World) (h1 : 1 <= k) (hkL : k <= 2) (hkn : k <= n) (hl : Ru.By l) (hp : ∀ j, j < k -> w.cell? ⟨b, off + j, none⟩ = some (.int .u8 (Ru.g l j))) :
 Calls Try.prog 103 #[.slice (some ⟨b, off, none⟩) k cap, .int .i64 2] w fun e w' => e = .returned (.bool (Ru.bgB n k 2 l)) /\ w = w' := by
 have hiff := Ru.bg_two n k l h1 hkL hkn
 have C := Lib.hid (span_two k l b off cap w h1 hl (by omega) hp)
 clear hp
 by_cases hs : Ru.cls 2 (Ru.g l 0) /\ Ru.okC k l (2 - 1)
 ·have hb := span_loop k 2 l (by omega) hs.1 (2 - 1) (by omega) hs.2
  have C' : Hid (Calls Try.prog 104 #[.slice (some ⟨b, off, none⟩) k cap, .int .i64 2] w fun e w' => e = .returned (.tuple #[.int .i64 (Ru.spLo k l (Ru.base (Ru.g l 0)) (2 - 1)), .int .i64 (Ru.spHi k l (Ru.base (Ru.g l 0)) (2 - 1))]) /\ w = w') := Lib.hid (C.out.mono fun _ _ h => ⟨h.1 hs, h.2.2⟩)
  have hr : Ru.bgB n k 2 l = true ↔ Ru.room 2 (Ru.spLo k l (Ru.base (Ru.g l 0)) (2 - 1)) (Ru.spHi k l (Ru.base (Ru.g l 0)) (2 - 1)) := by
   unfold Ru.bgB
   rw [decide_eq_true_iff, <- hiff]
   exact ⟨fun h => h.2.2, fun h => ⟨hs.1, hs.2, h⟩⟩
  rw [Ru.room_two] at hr
  generalize Ru.spLo k l (Ru.base (Ru.g l 0)) (2 - 1) = lo at *
  generalize Ru.spHi k l (Ru.base (Ru.g l 0)) (2 - 1) = hi at *
  have HR := Lib.hid hr
  clear hr C hiff hs hl
  obtain ⟨q1, q2, q3⟩ := hb
  go_enter Try.func103, Try.ntmps103
  go_wp2_with (go_at_call 104; ((with_reducible refine (C'.out).mono ?_); rintro e w' ⟨rfl, rfl⟩))
  all_goals
   go_ret
   exact ⟨ret_bool (by rw [Bool.eq_iff_iff, HR.out]; simp only [decide_eq_true_iff]; first | omega | (simp only [true_iff]; omega) | (simp only [false_iff]; omega)), rfl⟩
 ·have C' : Hid (Calls Try.prog 104 #[.slice (some ⟨b, off, none⟩) k cap, .int .i64 2] w fun e w' => e = .returned (.tuple #[.int .i64 (-1), .int .i64 (-1)]) /\ w = w') := Lib.hid (C.out.mono fun _ _ h => ⟨h.2.1 hs, h.2.2⟩)
  have HR : Ru.bgB n k 2 l = false := decide_eq_false fun h => hs ⟨(hiff.2 h).1, (hiff.2 h).2.1⟩
  rw [HR]
  clear HR C hiff hs hl
  go_enter Try.func103, Try.ntmps103
  go_wp2_with (go_at_call 104; ((with_reducible refine (C'.out).mono ?_); rintro e w' ⟨rfl, rfl⟩))
  go_ret
  exact ⟨rfl, rfl⟩
theorem begins_three (n k : Nat) (l : List Int) (b off cap : Nat) (w : World) (h1 : 1 <= k) (hkL : k <= 3) (hkn : k <= n) (hl : Ru.By l) (hp : ∀ j, j < k -> w.cell? ⟨b, off + j, none⟩ = some (.int .u8 (Ru.g l j))) :
 Calls Try.prog 103 #[.slice (some ⟨b, off, none⟩) k cap, .int .i64 3] w fun e w' => e = .returned (.bool (Ru.bgB n k 3 l)) /\ w = w' := by
 have hiff := Ru.bg_three n k l h1 hkL hkn
 have C := Lib.hid (span_three k l b off cap w h1 hl (by omega) hp)
 clear hp
 by_cases hs : Ru.cls 3 (Ru.g l 0) /\ Ru.okC k l (3 - 1)
 ·have hb := span_loop k 3 l (by omega) hs.1 (3 - 1) (by omega) hs.2
  have C' : Hid (Calls Try.prog 104 #[.slice (some ⟨b, off, none⟩) k cap, .int .i64 3] w fun e w' => e = .returned (.tuple #[.int .i64 (Ru.spLo k l (Ru.base (Ru.g l 0)) (3 - 1)), .int .i64 (Ru.spHi k l (Ru.base (Ru.g l 0)) (3 - 1))]) /\ w = w') := Lib.hid (C.out.mono fun _ _ h => ⟨h.1 hs, h.2.2⟩)
  have hr : Ru.bgB n k 3 l = true ↔ Ru.room 3 (Ru.spLo k l (Ru.base (Ru.g l 0)) (3 - 1)) (Ru.spHi k l (Ru.base (Ru.g l 0)) (3 - 1)) := by
   unfold Ru.bgB
   rw [decide_eq_true_iff, <- hiff]
   exact ⟨fun h => h.2.2, fun h => ⟨hs.1, hs.2, h⟩⟩
  rw [Ru.room_three] at hr
  generalize Ru.spLo k l (Ru.base (Ru.g l 0)) (3 - 1) = lo at *
  generalize Ru.spHi k l (Ru.base (Ru.g l 0)) (3 - 1) = hi at *
  have HR := Lib.hid hr
  clear hr C hiff hs hl
  obtain ⟨q1, q2, q3⟩ := hb
  go_enter Try.func103, Try.ntmps103
  go_wp2_with (go_at_call 104; ((with_reducible refine (C'.out).mono ?_); rintro e w' ⟨rfl, rfl⟩))
  all_goals
   go_ret
   exact ⟨ret_bool (by rw [Bool.eq_iff_iff, HR.out]; simp only [decide_eq_true_iff]; first | omega | (simp only [true_iff]; omega) | (simp only [false_iff]; omega)), rfl⟩
 ·have C' : Hid (Calls Try.prog 104 #[.slice (some ⟨b, off, none⟩) k cap, .int .i64 3] w fun e w' => e = .returned (.tuple #[.int .i64 (-1), .int .i64 (-1)]) /\ w = w') := Lib.hid (C.out.mono fun _ _ h => ⟨h.2.1 hs, h.2.2⟩)
  have HR : Ru.bgB n k 3 l = false := decide_eq_false fun h => hs ⟨(hiff.2 h).1, (hiff.2 h).2.1⟩
  rw [HR]
  clear HR C hiff hs hl
  go_enter Try.func103, Try.ntmps103
  go_wp2_with (go_at_call 104; ((with_reducible refine (C'.out).mono ?_); rintro e w' ⟨rfl, rfl⟩))
  go_ret
  exact ⟨rfl, rfl⟩
theorem begins_four (n k : Nat) (l : List Int) (b off cap : Nat) (w : World) (h1 : 1 <= k) (hkL : k <= 4) (hkn : k <= n) (hl : Ru.By l) (hp : ∀ j, j < k -> w.cell? ⟨b, off + j, none⟩ = some (.int .u8 (Ru.g l j))) :
 Calls Try.prog 103 #[.slice (some ⟨b, off, none⟩) k cap, .int .i64 4] w fun e w' => e = .returned (.bool (Ru.bgB n k 4 l)) /\ w = w' := by
 have hiff := Ru.bg_four n k l h1 hkL hkn
 have C := Lib.hid (span_four k l b off cap w h1 hl (by omega) hp)
 clear hp
 by_cases hs : Ru.cls 4 (Ru.g l 0) /\ Ru.okC k l (4 - 1)
 ·have hb := span_loop k 4 l (by omega) hs.1 (4 - 1) (by omega) hs.2
  have C' : Hid (Calls Try.prog 104 #[.slice (some ⟨b, off, none⟩) k cap, .int .i64 4] w fun e w' => e = .returned (.tuple #[.int .i64 (Ru.spLo k l (Ru.base (Ru.g l 0)) (4 - 1)), .int .i64 (Ru.spHi k l (Ru.base (Ru.g l 0)) (4 - 1))]) /\ w = w') := Lib.hid (C.out.mono fun _ _ h => ⟨h.1 hs, h.2.2⟩)
  have hr : Ru.bgB n k 4 l = true ↔ Ru.room 4 (Ru.spLo k l (Ru.base (Ru.g l 0)) (4 - 1)) (Ru.spHi k l (Ru.base (Ru.g l 0)) (4 - 1)) := by
   unfold Ru.bgB
   rw [decide_eq_true_iff, <- hiff]
   exact ⟨fun h => h.2.2, fun h => ⟨hs.1, hs.2, h⟩⟩
  rw [Ru.room_four] at hr
  generalize Ru.spLo k l (Ru.base (Ru.g l 0)) (4 - 1) = lo at *
  generalize Ru.spHi k l (Ru.base (Ru.g l 0)) (4 - 1) = hi at *
  have HR := Lib.hid hr
  clear hr C hiff hs hl
  obtain ⟨q1, q2, q3⟩ := hb
  go_enter Try.func103, Try.ntmps103
  go_wp2_with (go_at_call 104; ((with_reducible refine (C'.out).mono ?_); rintro e w' ⟨rfl, rfl⟩))
  all_goals
   go_ret
   exact ⟨ret_bool (by rw [Bool.eq_iff_iff, HR.out]; simp only [decide_eq_true_iff]; first | omega | (simp only [true_iff]; omega) | (simp only [false_iff]; omega)), rfl⟩
 ·have C' : Hid (Calls Try.prog 104 #[.slice (some ⟨b, off, none⟩) k cap, .int .i64 4] w fun e w' => e = .returned (.tuple #[.int .i64 (-1), .int .i64 (-1)]) /\ w = w') := Lib.hid (C.out.mono fun _ _ h => ⟨h.2.1 hs, h.2.2⟩)
  have HR : Ru.bgB n k 4 l = false := decide_eq_false fun h => hs ⟨(hiff.2 h).1, (hiff.2 h).2.1⟩
  rw [HR]
  clear HR C hiff hs hl
  go_enter Try.func103, Try.ntmps103
  go_wp2_with (go_at_call 104; ((with_reducible refine (C'.out).mono ?_); rintro e w' ⟨rfl, rfl⟩))
  go_ret
  exact ⟨rfl, rfl⟩
namespace Ru
theorem val_sp (l : List Int) (L : Nat) (hL : (L : Int) = need (g l 0)) (h0 : L ≠ 0) (hc : cls L (g l 0)) (ho : okC L l (L - 1)) : spLo L l (base (g l 0)) (L - 1) = val (g l 0) (g l 1) (g l 2) (g l 3) := by
 have hcase := need_case (g l 0)
 obtain ⟨s1, -⟩ := sp_two L l (base (g l 0))
 obtain ⟨s3, -⟩ := sp_three L l (base (g l 0))
 obtain ⟨s5, -⟩ := sp_four L l (base (g l 0))
 have ok := (okC_three L l (L - 1) (by omega)).1 ho
 unfold cls at hc
 rcases (show L = 2 ∨ L = 3 ∨ L = 4 by omega) with rfl | rfl | rfl
 ·have hx : base (g l 0) = g l 0 - 192 := by unfold base; omega
  unfold val
  rw [<- hL, show (2 : Nat) - 1 = 1 from rfl, s1, if_pos (by omega), hx]
  rw [if_pos (by omega)]
  omega
 ·have hx : base (g l 0) = g l 0 - 224 := by unfold base; omega
  unfold val
  rw [<- hL, show (3 : Nat) - 1 = 2 from rfl, s3, if_pos (by omega), s1, if_pos (by omega), hx]
  rw [if_neg (by omega), if_pos (by omega)]
  omega
 ·have hx : base (g l 0) = g l 0 - 240 := by unfold base; omega
  unfold val
  rw [<- hL, show (4 : Nat) - 1 = 3 from rfl, s5, if_pos (by omega), s3, if_pos (by omega), s1, if_pos (by omega), hx]
  rw [if_neg (by omega), if_neg (by omega)]
  omega
def res (s m v : Int) : Int := if s ≠ 0 /\ m = s then v else 65533
def wid (m : Int) : Int := if m = 0 then 1 else m
theorem res_yes {s m v : Int} (h : s ≠ 0 /\ m = s) : res s m v = v := if_pos h
theorem res_no {s m v : Int} (h : ¬ (s ≠ 0 /\ m = s)) : res s m v = 65533 := if_neg h
def BestOut (s m L x : Int) : Prop := (s < L -> (x = m ∨ (m = 0 /\ x = 1)) /\ (s ≠ 0 -> m < s)) /\ (¬ s < L -> x = 1) /\ 1 <= x /\ x <= 4
def BestIn (s m n L K x : Int) : Prop := (L = s -> ((K = 1 /\ x = 1) ∨ (2 <= K /\ x = K - 1)) /\ K - 1 <= m /\ K <= L) /\ (L ≠ s -> K = 1 /\ BestOut s m L x) /\ 1 <= K /\ K <= n + 1 /\ 1 <= x /\ x <= 4
end Ru
def NextOut (s m : Int) (v4 v5 : Value) : Prop := ∃ (L : Nat) (x : Int), 2 <= L /\ L <= 5 /\ v5 = .int .i64 L /\ v4 = .int .i64 x /\ Hid (Ru.BestOut s m L x)
def NextIn (s m : Int) (n L : Nat) (v4 v6 : Value) : Prop := ∃ (K : Nat) (x : Int), v6 = .int .i64 K /\ v4 = .int .i64 x /\ 1 <= K /\ K <= 5 /\ K <= n + 1 /\ 1 <= x /\ x <= 4 /\ Hid (Ru.BestIn s m n L K x)
def FirstIs (v : Int) (w : World) (e : Ending) (w' : World) : Prop := ∃ h : Int, e = .returned (.tuple #[.int .i64 v, .int .i64 h]) /\ w = w'
theorem next_high (n : Nat) (b off cap : Nat) (w : World) (s m v : Int) (h1 : 1 <= n) (hm : n <= 9223372036854775807) (hcap : n <= cap) (a : Int) (ha : 128 <= a /\ a < 256) (h0 : w.cell? ⟨b, off, none⟩ = some (.int .u8 a))
 (hs : s = 0 ∨ s = 2 ∨ s = 3 ∨ s = 4) (hmb : 0 <= m /\ m <= s /\ m <= n) (hm1 : s ≠ 0 -> 1 <= m)
 (CB : Hid (∀ K L : Nat, 1 <= K -> K <= L -> K <= n -> 2 <= L -> L <= 4 -> Calls Try.prog 103 #[.slice (some ⟨b, off, none⟩) K cap, .int .i64 L] w fun e w' => e = .returned (.bool (decide ((L : Int) = s /\ (K : Int) <= m))) /\ w = w'))
 (CS : Hid (∀ L : Nat, 2 <= L -> (L : Int) = s -> m = s -> Calls Try.prog 104 #[.slice (some ⟨b, off, none⟩) L cap, .int .i64 L] w (FirstIs v w))) :
 Calls Try.prog 91 #[.slice (some ⟨b, off, none⟩) n cap] w fun e w' => e = .returned (.tuple #[.int .i64 (Ru.res s m v), .int .i64 (Ru.wid m)]) /\ w = w' := by
 have hna : ¬ a < 128 := by omega
 have HM := Lib.hid (And.intro hs (And.intro hmb hm1))
 clear hs hmb hm1
 go_enter Try.func91, Try.ntmps91
 go_wp2_with fail
 go_loop [4, 5] (fun v4 v5 => NextOut s m v4 v5) (fun _ v5 => 5 - (RowKit.intOf v5).toNat)
 case atStart => exact ⟨2, 1, by omega, by omega, rfl, rfl, Lib.hid (by have := HM.out; unfold Ru.BestOut; omega)⟩
 case round =>
  obtain ⟨L, x, L1, L2, rfl, rfl, HO⟩ := hrel
  by_cases hL : L <= 4
  ·go_wp2_with fail
   go_loop [4, 6] (fun v4 v6 => NextIn s m n L v4 v6) (fun _ v6 => L + 1 - (RowKit.intOf v6).toNat)
   case atStart => exact ⟨1, x, rfl, rfl, by omega, by omega, by omega, by have := HO.out; unfold Ru.BestOut at this; omega, by have := HO.out; unfold Ru.BestOut at this; omega, Lib.hid (by have := HO.out; have := HM.out; unfold Ru.BestOut Ru.BestIn at *; unfold Ru.BestOut; omega)⟩
   case round =>
    obtain ⟨K, y, rfl, rfl, k1, k2, k3, y1, y2, HI⟩ := hrel
    by_cases hK : K <= L /\ K <= n
    ·obtain ⟨g1, g2⟩ := hK
     have CK := CB.out K L k1 g1 g2 L1 hL
     by_cases hc : (L : Int) = s /\ (K : Int) <= m
     ·rw [decide_eq_true hc] at CK
      by_cases hKL : K = L
      ·subst hKL
       have hms : m = s := by have := HM.out; omega
       have CSK := Lib.hid (CS.out K L1 hc.1 hms)
       have eK : ((K : Int) == (K : Int)) = true := Ru.eq_t rfl
       have HC := Lib.hid (And.intro hc hms)
       have CK' := Lib.hid CK
       clear CK CB CS hc hms
       go_wp2_with (first | (go_at_call 103; ((with_reducible refine (CK'.out).mono ?_); rintro e w' ⟨rfl, rfl⟩)) | (go_at_call 104; ((with_reducible refine (CSK.out).mono ?_); rintro e w' ⟨h, rfl, rfl⟩)))
       go_ret2
       exact ⟨ret_two (Ru.res_yes (by have h1 := HC.out; have h2 := HM.out; omega)).symm (by have h1 := HC.out; have h2 := HM.out; unfold Ru.wid; omega), rfl⟩
      ·have eK : ((K : Int) == (L : Int)) = false := Ru.eq_f (by omega)
       have HC := Lib.hid hc
       have CK' := Lib.hid CK
       clear CK CB CS hc
       have hlt : K < L := by omega
       go_wp2_with (go_at_call 103; ((with_reducible refine (CK'.out).mono ?_); rintro e w' ⟨rfl, rfl⟩))
       go_round
       case rel => exact ⟨K + 1, max y K, by go_num, rfl, by omega, by omega, by omega, by omega, by omega, Lib.hid (by have h1 := HC.out; have h2 := HM.out; have h3 := HI.out; unfold Ru.BestIn Ru.BestOut at *; omega)⟩
       case measure => simp [RowKit.intOf]; omega
     ·rw [decide_eq_false hc] at CK
      have HC := Lib.hid hc
      have CK' := Lib.hid CK
      clear CK CB CS hc
      go_wp2_with (go_at_call 103; ((with_reducible refine (CK'.out).mono ?_); rintro e w' ⟨rfl, rfl⟩))
      go_round
      case rel => exact ⟨L + 1, y, by omega, by omega, by go_num, rfl, Lib.hid (by have h1 := HC.out; have h2 := HM.out; have h3 := HI.out; unfold Ru.BestIn Ru.BestOut at *; omega)⟩
      case measure => simp [RowKit.intOf]; omega
    ·clear CB CS
     by_cases g1 : K <= L
     all_goals
      go_wp2_with fail
      go_round
      case rel => exact ⟨L + 1, y, by omega, by omega, by go_num, rfl, Lib.hid (by have h2 := HM.out; have h3 := HI.out; unfold Ru.BestIn Ru.BestOut at *; omega)⟩
      case measure => simp [RowKit.intOf]; omega
  ·obtain rfl : L = 5 := by omega
   clear CB CS
   go_wp2_with fail
   go_ret2
   exact ⟨ret_two (Ru.res_no (by have h2 := HM.out; have h3 := HO.out; unfold Ru.BestOut at h3; omega)).symm (by have h2 := HM.out; have h3 := HO.out; unfold Ru.BestOut at h3; unfold Ru.wid; omega), rfl⟩
theorem rnext_any (l : List Int) (hl : Ru.By l) (h0 : l ≠ []) (b off cap : Nat) (w : World) (hm : l.length <= 9223372036854775807) (hcap : l.length <= cap) (hp : ∀ j, j < l.length -> w.cell? ⟨b, off + j, none⟩ = some (.int .u8 (Ru.g l j))) :
 Calls Try.prog 91 #[.slice (some ⟨b, off, none⟩) l.length cap] w fun e w' => e = .returned (.tuple #[.int .i64 (Ru.chL l), .int .i64 (Ru.wdL l : Nat)]) /\ w = w' := by
 have hlen := Ru.len_pos h0
 have y0 := hl.at_ 0
 have hc0 := hp 0 (by omega)
 rw [Nat.add_zero] at hc0
 rw [Ru.wdL_int h0]
 by_cases ha : Ru.g l 0 < 128
 ·have e1 : Ru.chL l = Ru.g l 0 := by unfold Ru.chL Ru.ch; rw [if_pos ha]
  have e2 : Ru.wd l.length (Ru.g l 0) (Ru.g l 1) (Ru.g l 2) (Ru.g l 3) = 1 := by unfold Ru.wd; rw [if_pos ha]
  rw [e1, e2]
  generalize Ru.g l 0 = a at *
  generalize l.length = n at *
  clear hp e1 e2 h0 hl
  go_enter Try.func91, Try.ntmps91
  go_wp2_with fail
  go_ret2
  exact ⟨rfl, rfl⟩
 ·have hmm := Ru.mm_le l.length (Ru.g l 0) (Ru.g l 1) (Ru.g l 2) (Ru.g l 3) (by omega)
  have e1 : Ru.chL l = Ru.res (Ru.need (Ru.g l 0)) (Ru.mm l.length (Ru.g l 0) (Ru.g l 1) (Ru.g l 2) (Ru.g l 3)) (Ru.val (Ru.g l 0) (Ru.g l 1) (Ru.g l 2) (Ru.g l 3)) := by unfold Ru.chL Ru.ch Ru.res; rw [if_neg ha]
  have e2 : Ru.wd l.length (Ru.g l 0) (Ru.g l 1) (Ru.g l 2) (Ru.g l 3) = Ru.wid (Ru.mm l.length (Ru.g l 0) (Ru.g l 1) (Ru.g l 2) (Ru.g l 3)) := by unfold Ru.wd Ru.wid; rw [if_neg ha]
  rw [e1, e2]
  refine next_high l.length b off cap w _ _ _ hlen hm hcap (Ru.g l 0) (by omega) hc0 (Ru.need_case _) hmm (fun h => Ru.mm_one h) (Lib.hid fun K L k1 k2 k3 l1 l2 => ?_) (Lib.hid fun L l1 hs hms => ?_)
  ·rcases (show L = 2 ∨ L = 3 ∨ L = 4 by omega) with rfl | rfl | rfl
   ·exact begins_two l.length K l b off cap w k1 (by omega) k3 hl (fun j hj => hp j (by omega))
   ·exact begins_three l.length K l b off cap w k1 (by omega) k3 hl (fun j hj => hp j (by omega))
   ·exact begins_four l.length K l b off cap w k1 (by omega) k3 hl (fun j hj => hp j (by omega))
  ·rw [<- hs] at hmm
   rcases (show L = 2 ∨ L = 3 ∨ L = 4 by have := Ru.need_case (Ru.g l 0); omega) with rfl | rfl | rfl
   ·have hb := (Ru.bg_two l.length 2 l (by omega) (by omega) (by omega)).2 ⟨hs, by omega⟩
    have hv := Ru.val_sp l 2 hs (by omega) hb.1 hb.2.1
    exact (span_two 2 l b off cap w (by omega) hl (by omega) (fun j hj => hp j (by omega))).mono fun e w' h => ⟨_, (h.1 ⟨hb.1, hb.2.1⟩).trans (ret_two hv rfl), h.2.2⟩
   ·have hb := (Ru.bg_three l.length 3 l (by omega) (by omega) (by omega)).2 ⟨hs, by omega⟩
    have hv := Ru.val_sp l 3 hs (by omega) hb.1 hb.2.1
    exact (span_three 3 l b off cap w (by omega) hl (by omega) (fun j hj => hp j (by omega))).mono fun e w' h => ⟨_, (h.1 ⟨hb.1, hb.2.1⟩).trans (ret_two hv rfl), h.2.2⟩
   ·have hb := (Ru.bg_four l.length 4 l (by omega) (by omega) (by omega)).2 ⟨hs, by omega⟩
    have hv := Ru.val_sp l 4 hs (by omega) hb.1 hb.2.1
    exact (span_four 4 l b off cap w (by omega) hl (by omega) (fun j hj => hp j (by omega))).mono fun e w' h => ⟨_, (h.1 ⟨hb.1, hb.2.1⟩).trans (ret_two hv rfl), h.2.2⟩
namespace Ru
inductive WayQ (r : List Int) (c : Int) (d t : Nat) : Prop
 | other (h : ((c : Int) == 13) = false) (ht : t = d)
 | last (h : ((c : Int) == 13) = true) (h2 : ¬ 1 < r.length) (ht : t = d)
 | lone (h : ((c : Int) == 13) = true) (h2 : 1 < r.length) (h3 : (g r 1 == 10) = false) (ht : t = d)
 | both (h : ((c : Int) == 13) = true) (h2 : 1 < r.length) (h3 : (g r 1 == 10) = true) (ht : t = 2)
theorem wayQ (r : List Int) (hr : r ≠ []) : WayQ r (chL r) (wdL r) (st r) := by
 by_cases h : chL r = 13
 ·have hd : wdL r = 1 := by
   have h1 := wdL_int hr
   unfold chL at h
   rw [wd_13 h] at h1
   omega
  unfold st
  rw [hd]
  by_cases h2 : 1 < r.length
  ·by_cases h3 : g r 1 = 10
   ·exact .both (eq_t h) h2 (eq_t h3) (by rw [if_pos ⟨h, h2, h3⟩])
   ·exact .lone (eq_t h) h2 (eq_f h3) (by rw [if_neg (fun hh => h3 hh.2.2)])
  ·exact .last (eq_t h) h2 (by rw [if_neg (fun hh => h2 hh.2.1)])
 ·exact .other (eq_f h) (by unfold st; rw [if_neg (fun hh => h hh.1)])
end Ru
def RReadAt (w : World) (l : List Int) (v0 v3 : Value) (wr : World) : Prop :=
 ∃ (k : Nat) (ds r : List Int) (A : Option Addr) (c' : Nat), Hid (r = l.drop k) /\ v0 = .slice A r.length c' /\ r.length <= c' /\ Hid (Bs w w.heap.size .u8 A r) /\ Hid (Ru.By r) /\ Hid (Ru.rd l = ds ++ Ru.rd r) /\ wr.ownsRow w.heap.size 3 1 v3 ds.length (nums .i64 ds) /\ Below w.heap.size w wr /\ ds.length + r.length <= 65536
def lenOf : Value -> Nat
 | .slice _ n _ => n
 | _ => 0
theorem rread_any (l : List Int) (hl : Ru.By l) (A : Option Addr) (cap : Nat) (w : World) (hm : l.length <= 65536) (hcap : l.length <= cap) (hA : Bs w w.heap.size .u8 A l) :
 Calls Try.prog 77 #[.slice A l.length cap] w (Made .i64 3 (Ru.rd l) w) := by
 obtain ⟨i0, hi, hz0, hz1, hz2⟩ := info_parts Try.info3
 have HA := Lib.hid hA
 have HL := Lib.hid hl
 clear hA hl
 go_enter Try.func77, Try.ntmps77
 go_wp2_with fail
 go_loopw [0, 3] (fun v0 v3 wr => RReadAt w l v0 v3 wr) (fun v0 _ _ => lenOf v0)
 case atStart => exact ⟨0, [], l, A, cap, Lib.hid rfl, rfl, hcap, HA, HL, Lib.hid rfl, World.ownsRow_nil _ _ _ _, Below.refl _ _, by simpa using hm⟩
 case round =>
  obtain ⟨k, ds, r, A', c', hr, rfl, hrc, hBs, hBy, hrd, hown, hbel, hlen⟩ := hrel
  have HO := Lib.hid hown
  have HB := Lib.hid hbel
  clear hown hbel HA HL
  by_cases hlt : 0 < r.length
  ·have hne : r ≠ [] := fun e => by rw [e] at hlt; simp at hlt
   obtain ⟨b, off, rfl, hb, hp⟩ := hBs.out hlt
   have CN : Hid (∀ wr : World, Below w.heap.size w wr -> Calls Try.prog 91 #[.slice (some ⟨b, off, none⟩) r.length c'] wr fun e w' => e = .returned (.tuple #[.int .i64 (Ru.chL r), .int .i64 (Ru.wdL r : Nat)]) /\ wr = w') := Lib.hid fun wr h =>
    rnext_any r hBy.out hne b off c' wr (by omega) hrc (fun j hj => (h.cell (p := ⟨b, off + j, none⟩) hb).trans (hp j hj))
   have hcell : 1 < r.length -> wr.cell? ⟨b, off + 1, none⟩ = some (.int .u8 (Ru.g r 1)) := fun h => (HB.out.cell (p := ⟨b, off + 1, none⟩) hb).trans (hp 1 h)
   have hway := Ru.wayQ r hne
   have hwd := Ru.wdL_le hne
   have hst := Ru.st_le hne
   have hrd' : Hid (Ru.rd l = (ds ++ [Ru.plain (Ru.chL r)]) ++ Ru.rd (r.drop (Ru.st r))) := Lib.hid (by
    rw [hrd.out, Ru.rd_cons hne, List.append_assoc]; rfl)
   have hr' : Hid (r.drop (Ru.st r) = l.drop (k + Ru.st r)) := Lib.hid (by rw [<- List.drop_drop, <- hr.out])
   have hB' := hBs.out.from_ (i := Ru.st r) hst.2 c' hrc
   rw [Option.map_some, Addr.add_lit] at hB'
   have hy' : Hid (Ru.By (r.drop (Ru.st r))) := Lib.hid (hBy.out.drop _)
   have hl' : Hid ((r.drop (Ru.st r)).length = r.length - Ru.st r) := Lib.hid (by simp)
   generalize Ru.chL r = c at *
   generalize Ru.wdL r = d at *
   generalize Ru.st r = t at *
   clear hrd hne hr hBs hBy hp
   obtain ⟨d1, d2, d3⟩ := hwd
   obtain ⟨t1, t2⟩ := hst
   have hc3 : ds.length + 1 <= maxLen := by unfold maxLen; omega
   have hc4 : (ds.length + 1) * 8 <= 140737488355328 := by omega
   rcases hway with ⟨h, rfl⟩ | ⟨h, h2, rfl⟩ | ⟨h, h2, h3, rfl⟩ | ⟨h, h2, h3, rfl⟩
   ·clear hcell
    have h13 : ¬ c = 13 := by simpa using h
    by_cases e12 : c = 12
    ·subst e12
     have HRD := Lib.hid (show Ru.rd l = (ds ++ [10]) ++ Ru.rd (r.drop t) from hrd'.out)
     clear hrd' h13
     by_cases hct : c' = t
     ·obtain rfl : t = c' := hct.symm
      rw [if_pos rfl] at hB'
      have HB' := Lib.hid hB'
      clear hB'
      go_wp2_with (first | (go_at_call 91; ((with_reducible refine (CN.out _ HB.out).mono ?_); rintro e w1 ⟨rfl, rfl⟩)) | (at_builtin; refine wpList_append_own _ rfl _ _ 39 rfl w.heap.size 3 i0 (.int .i64 0) 1 8 Try.underlying39 hi hz0 hz1 hz2 rfl (by decide) _ _ _ rfl (HO.out.alloc _) ⟨wr.heap.size, 0, none⟩ 1 1 [.int .i64 (10)] rfl rfl (one_cell _ _) (one_ok _) hc3 hc4 (alloc_size HB.out.size _) ?_; intro v' w3 hown3 hgrow _; have HO3 := Lib.hid (made_next HO.out HB.out (Below.refl _ _) hown3 hgrow); clear hown3 hgrow))
      go_roundw
      case rel => exact ⟨_, ds ++ [10], _, _, _, hr', by first | (rw [hl'.out]; done) | rw [hl'.out, show r.length - t = 0 by omega], by rw [hl'.out]; omega, HB', hy', HRD, HO3.out.1, HO3.out.2, by rw [hl'.out]; simp; omega⟩
      case measure => simp [lenOf]; omega
     ·rw [if_neg hct] at hB'
      have HB' := Lib.hid hB'
      clear hB'
      go_wp2_with (first | (go_at_call 91; ((with_reducible refine (CN.out _ HB.out).mono ?_); rintro e w1 ⟨rfl, rfl⟩)) | (at_builtin; refine wpList_append_own _ rfl _ _ 39 rfl w.heap.size 3 i0 (.int .i64 0) 1 8 Try.underlying39 hi hz0 hz1 hz2 rfl (by decide) _ _ _ rfl (HO.out.alloc _) ⟨wr.heap.size, 0, none⟩ 1 1 [.int .i64 (10)] rfl rfl (one_cell _ _) (one_ok _) hc3 hc4 (alloc_size HB.out.size _) ?_; intro v' w3 hown3 hgrow _; have HO3 := Lib.hid (made_next HO.out HB.out (Below.refl _ _) hown3 hgrow); clear hown3 hgrow))
      go_roundw
      case rel => exact ⟨_, ds ++ [10], _, _, _, hr', by first | (rw [hl'.out]; done) | rw [hl'.out, show r.length - t = 0 by omega], by rw [hl'.out]; omega, HB', hy', HRD, HO3.out.1, HO3.out.2, by rw [hl'.out]; simp; omega⟩
      case measure => simp [lenOf]; omega
    ·have f12 := Ru.eq_f e12
     by_cases e0 : c = 0
     ·subst e0
      have HRD := Lib.hid (show Ru.rd l = (ds ++ [65533]) ++ Ru.rd (r.drop t) from hrd'.out)
      clear hrd' h13
      by_cases hct : c' = t
      ·obtain rfl : t = c' := hct.symm
       rw [if_pos rfl] at hB'
       have HB' := Lib.hid hB'
       clear hB'
       go_wp2_with (first | (go_at_call 91; ((with_reducible refine (CN.out _ HB.out).mono ?_); rintro e w1 ⟨rfl, rfl⟩)) | (at_builtin; refine wpList_append_own _ rfl _ _ 39 rfl w.heap.size 3 i0 (.int .i64 0) 1 8 Try.underlying39 hi hz0 hz1 hz2 rfl (by decide) _ _ _ rfl (HO.out.alloc _) ⟨wr.heap.size, 0, none⟩ 1 1 [.int .i64 (65533)] rfl rfl (one_cell _ _) (one_ok _) hc3 hc4 (alloc_size HB.out.size _) ?_; intro v' w3 hown3 hgrow _; have HO3 := Lib.hid (made_next HO.out HB.out (Below.refl _ _) hown3 hgrow); clear hown3 hgrow))
       go_roundw
       case rel => exact ⟨_, ds ++ [65533], _, _, _, hr', by first | (rw [hl'.out]; done) | rw [hl'.out, show r.length - t = 0 by omega], by rw [hl'.out]; omega, HB', hy', HRD, HO3.out.1, HO3.out.2, by rw [hl'.out]; simp; omega⟩
       case measure => simp [lenOf]; omega
      ·rw [if_neg hct] at hB'
       have HB' := Lib.hid hB'
       clear hB'
       go_wp2_with (first | (go_at_call 91; ((with_reducible refine (CN.out _ HB.out).mono ?_); rintro e w1 ⟨rfl, rfl⟩)) | (at_builtin; refine wpList_append_own _ rfl _ _ 39 rfl w.heap.size 3 i0 (.int .i64 0) 1 8 Try.underlying39 hi hz0 hz1 hz2 rfl (by decide) _ _ _ rfl (HO.out.alloc _) ⟨wr.heap.size, 0, none⟩ 1 1 [.int .i64 (65533)] rfl rfl (one_cell _ _) (one_ok _) hc3 hc4 (alloc_size HB.out.size _) ?_; intro v' w3 hown3 hgrow _; have HO3 := Lib.hid (made_next HO.out HB.out (Below.refl _ _) hown3 hgrow); clear hown3 hgrow))
       go_roundw
       case rel => exact ⟨_, ds ++ [65533], _, _, _, hr', by first | (rw [hl'.out]; done) | rw [hl'.out, show r.length - t = 0 by omega], by rw [hl'.out]; omega, HB', hy', HRD, HO3.out.1, HO3.out.2, by rw [hl'.out]; simp; omega⟩
       case measure => simp [lenOf]; omega
     ·have f0 := Ru.eq_f e0
      have hpl : Ru.plain c = c := by unfold Ru.plain; rw [if_neg (by omega), if_neg e0]
      have HRD := Lib.hid (show Ru.rd l = (ds ++ [c]) ++ Ru.rd (r.drop t) by rw [<- hpl]; exact hrd'.out)
      clear hrd' h13 hpl e12 e0
      by_cases hct : c' = t
      ·obtain rfl : t = c' := hct.symm
       rw [if_pos rfl] at hB'
       have HB' := Lib.hid hB'
       clear hB'
       go_wp2_with (first | (go_at_call 91; ((with_reducible refine (CN.out _ HB.out).mono ?_); rintro e w1 ⟨rfl, rfl⟩)) | (at_builtin; refine wpList_append_own _ rfl _ _ 39 rfl w.heap.size 3 i0 (.int .i64 0) 1 8 Try.underlying39 hi hz0 hz1 hz2 rfl (by decide) _ _ _ rfl (HO.out.alloc _) ⟨wr.heap.size, 0, none⟩ 1 1 [.int .i64 (c)] rfl rfl (one_cell _ _) (one_ok _) hc3 hc4 (alloc_size HB.out.size _) ?_; intro v' w3 hown3 hgrow _; have HO3 := Lib.hid (made_next HO.out HB.out (Below.refl _ _) hown3 hgrow); clear hown3 hgrow))
       go_roundw
       case rel => exact ⟨_, ds ++ [c], _, _, _, hr', by first | (rw [hl'.out]; done) | rw [hl'.out, show r.length - t = 0 by omega], by rw [hl'.out]; omega, HB', hy', HRD, HO3.out.1, HO3.out.2, by rw [hl'.out]; simp; omega⟩
       case measure => simp [lenOf]; omega
      ·rw [if_neg hct] at hB'
       have HB' := Lib.hid hB'
       clear hB'
       go_wp2_with (first | (go_at_call 91; ((with_reducible refine (CN.out _ HB.out).mono ?_); rintro e w1 ⟨rfl, rfl⟩)) | (at_builtin; refine wpList_append_own _ rfl _ _ 39 rfl w.heap.size 3 i0 (.int .i64 0) 1 8 Try.underlying39 hi hz0 hz1 hz2 rfl (by decide) _ _ _ rfl (HO.out.alloc _) ⟨wr.heap.size, 0, none⟩ 1 1 [.int .i64 (c)] rfl rfl (one_cell _ _) (one_ok _) hc3 hc4 (alloc_size HB.out.size _) ?_; intro v' w3 hown3 hgrow _; have HO3 := Lib.hid (made_next HO.out HB.out (Below.refl _ _) hown3 hgrow); clear hown3 hgrow))
       go_roundw
       case rel => exact ⟨_, ds ++ [c], _, _, _, hr', by first | (rw [hl'.out]; done) | rw [hl'.out, show r.length - t = 0 by omega], by rw [hl'.out]; omega, HB', hy', HRD, HO3.out.1, HO3.out.2, by rw [hl'.out]; simp; omega⟩
       case measure => simp [lenOf]; omega
   ·have hpl : Ru.plain c = 10 := by unfold Ru.plain; rw [if_pos (Or.inl (by simpa using h))]
    have HRD := Lib.hid (show Ru.rd l = (ds ++ [10]) ++ Ru.rd (r.drop t) by rw [<- hpl]; exact hrd'.out)
    clear hrd' hpl
    clear hcell
    by_cases hct : c' = t
    ·obtain rfl : t = c' := hct.symm
     rw [if_pos rfl] at hB'
     have HB' := Lib.hid hB'
     clear hB'
     go_wp2_with (first | (go_at_call 91; ((with_reducible refine (CN.out _ HB.out).mono ?_); rintro e w1 ⟨rfl, rfl⟩)) | (at_builtin; refine wpList_append_own _ rfl _ _ 39 rfl w.heap.size 3 i0 (.int .i64 0) 1 8 Try.underlying39 hi hz0 hz1 hz2 rfl (by decide) _ _ _ rfl (HO.out.alloc _) ⟨wr.heap.size, 0, none⟩ 1 1 [.int .i64 (10)] rfl rfl (one_cell _ _) (one_ok _) hc3 hc4 (alloc_size HB.out.size _) ?_; intro v' w3 hown3 hgrow _; have HO3 := Lib.hid (made_next HO.out HB.out (Below.refl _ _) hown3 hgrow); clear hown3 hgrow))
     go_roundw
     case rel => exact ⟨_, ds ++ [10], _, _, _, hr', by first | (rw [hl'.out]; done) | rw [hl'.out, show r.length - t = 0 by omega], by rw [hl'.out]; omega, HB', hy', HRD, HO3.out.1, HO3.out.2, by rw [hl'.out]; simp; omega⟩
     case measure => simp [lenOf]; omega
    ·rw [if_neg hct] at hB'
     have HB' := Lib.hid hB'
     clear hB'
     go_wp2_with (first | (go_at_call 91; ((with_reducible refine (CN.out _ HB.out).mono ?_); rintro e w1 ⟨rfl, rfl⟩)) | (at_builtin; refine wpList_append_own _ rfl _ _ 39 rfl w.heap.size 3 i0 (.int .i64 0) 1 8 Try.underlying39 hi hz0 hz1 hz2 rfl (by decide) _ _ _ rfl (HO.out.alloc _) ⟨wr.heap.size, 0, none⟩ 1 1 [.int .i64 (10)] rfl rfl (one_cell _ _) (one_ok _) hc3 hc4 (alloc_size HB.out.size _) ?_; intro v' w3 hown3 hgrow _; have HO3 := Lib.hid (made_next HO.out HB.out (Below.refl _ _) hown3 hgrow); clear hown3 hgrow))
     go_roundw
     case rel => exact ⟨_, ds ++ [10], _, _, _, hr', by first | (rw [hl'.out]; done) | rw [hl'.out, show r.length - t = 0 by omega], by rw [hl'.out]; omega, HB', hy', HRD, HO3.out.1, HO3.out.2, by rw [hl'.out]; simp; omega⟩
     case measure => simp [lenOf]; omega
   ·have hpl : Ru.plain c = 10 := by unfold Ru.plain; rw [if_pos (Or.inl (by simpa using h))]
    have HRD := Lib.hid (show Ru.rd l = (ds ++ [10]) ++ Ru.rd (r.drop t) by rw [<- hpl]; exact hrd'.out)
    clear hrd' hpl
    replace hcell := hcell h2
    by_cases hct : c' = t
    ·obtain rfl : t = c' := hct.symm
     rw [if_pos rfl] at hB'
     have HB' := Lib.hid hB'
     clear hB'
     go_wp2_with (first | (go_at_call 91; ((with_reducible refine (CN.out _ HB.out).mono ?_); rintro e w1 ⟨rfl, rfl⟩)) | (at_builtin; refine wpList_append_own _ rfl _ _ 39 rfl w.heap.size 3 i0 (.int .i64 0) 1 8 Try.underlying39 hi hz0 hz1 hz2 rfl (by decide) _ _ _ rfl (HO.out.alloc _) ⟨wr.heap.size, 0, none⟩ 1 1 [.int .i64 (10)] rfl rfl (one_cell _ _) (one_ok _) hc3 hc4 (alloc_size HB.out.size _) ?_; intro v' w3 hown3 hgrow _; have HO3 := Lib.hid (made_next HO.out HB.out (Below.refl _ _) hown3 hgrow); clear hown3 hgrow))
     go_roundw
     case rel => exact ⟨_, ds ++ [10], _, _, _, hr', by first | (rw [hl'.out]; done) | rw [hl'.out, show r.length - t = 0 by omega], by rw [hl'.out]; omega, HB', hy', HRD, HO3.out.1, HO3.out.2, by rw [hl'.out]; simp; omega⟩
     case measure => simp [lenOf]; omega
    ·rw [if_neg hct] at hB'
     have HB' := Lib.hid hB'
     clear hB'
     go_wp2_with (first | (go_at_call 91; ((with_reducible refine (CN.out _ HB.out).mono ?_); rintro e w1 ⟨rfl, rfl⟩)) | (at_builtin; refine wpList_append_own _ rfl _ _ 39 rfl w.heap.size 3 i0 (.int .i64 0) 1 8 Try.underlying39 hi hz0 hz1 hz2 rfl (by decide) _ _ _ rfl (HO.out.alloc _) ⟨wr.heap.size, 0, none⟩ 1 1 [.int .i64 (10)] rfl rfl (one_cell _ _) (one_ok _) hc3 hc4 (alloc_size HB.out.size _) ?_; intro v' w3 hown3 hgrow _; have HO3 := Lib.hid (made_next HO.out HB.out (Below.refl _ _) hown3 hgrow); clear hown3 hgrow))
     go_roundw
     case rel => exact ⟨_, ds ++ [10], _, _, _, hr', by first | (rw [hl'.out]; done) | rw [hl'.out, show r.length - t = 0 by omega], by rw [hl'.out]; omega, HB', hy', HRD, HO3.out.1, HO3.out.2, by rw [hl'.out]; simp; omega⟩
     case measure => simp [lenOf]; omega
   ·have hpl : Ru.plain c = 10 := by unfold Ru.plain; rw [if_pos (Or.inl (by simpa using h))]
    have HRD := Lib.hid (show Ru.rd l = (ds ++ [10]) ++ Ru.rd (r.drop 2) by rw [<- hpl]; exact hrd'.out)
    clear hrd' hpl
    replace hcell := hcell h2
    by_cases hct : c' = 2
    ·subst hct
     rw [if_pos rfl] at hB'
     have HB' := Lib.hid hB'
     clear hB'
     go_wp2_with (first | (go_at_call 91; ((with_reducible refine (CN.out _ HB.out).mono ?_); rintro e w1 ⟨rfl, rfl⟩)) | (at_builtin; refine wpList_append_own _ rfl _ _ 39 rfl w.heap.size 3 i0 (.int .i64 0) 1 8 Try.underlying39 hi hz0 hz1 hz2 rfl (by decide) _ _ _ rfl (HO.out.alloc _) ⟨wr.heap.size, 0, none⟩ 1 1 [.int .i64 (10)] rfl rfl (one_cell _ _) (one_ok _) hc3 hc4 (alloc_size HB.out.size _) ?_; intro v' w3 hown3 hgrow _; have HO3 := Lib.hid (made_next HO.out HB.out (Below.refl _ _) hown3 hgrow); clear hown3 hgrow))
     go_roundw
     case rel => exact ⟨_, ds ++ [10], _, _, _, hr', by first | (rw [hl'.out]; done) | rw [hl'.out, show r.length - 2 = 0 by omega], by rw [hl'.out]; omega, HB', hy', HRD, HO3.out.1, HO3.out.2, by rw [hl'.out]; simp; omega⟩
     case measure => simp [lenOf]; omega
    ·rw [if_neg hct] at hB'
     have HB' := Lib.hid hB'
     clear hB'
     go_wp2_with (first | (go_at_call 91; ((with_reducible refine (CN.out _ HB.out).mono ?_); rintro e w1 ⟨rfl, rfl⟩)) | (at_builtin; refine wpList_append_own _ rfl _ _ 39 rfl w.heap.size 3 i0 (.int .i64 0) 1 8 Try.underlying39 hi hz0 hz1 hz2 rfl (by decide) _ _ _ rfl (HO.out.alloc _) ⟨wr.heap.size, 0, none⟩ 1 1 [.int .i64 (10)] rfl rfl (one_cell _ _) (one_ok _) hc3 hc4 (alloc_size HB.out.size _) ?_; intro v' w3 hown3 hgrow _; have HO3 := Lib.hid (made_next HO.out HB.out (Below.refl _ _) hown3 hgrow); clear hown3 hgrow))
     go_roundw
     case rel => exact ⟨_, ds ++ [10], _, _, _, hr', by first | (rw [hl'.out]; done) | rw [hl'.out, show r.length - 2 = 0 by omega], by rw [hl'.out]; omega, HB', hy', HRD, HO3.out.1, HO3.out.2, by rw [hl'.out]; simp; omega⟩
     case measure => simp [lenOf]; omega
  ·have hr0 : r = [] := List.eq_nil_of_length_eq_zero (by omega)
   have hd : Ru.rd l = ds := by rw [hrd.out, hr0, Ru.rd_nil, List.append_nil]
   have HD := Lib.hid hd
   clear hd hrd hr0
   go_wp2_with fail
   go_ret
   exact ⟨_, rfl, by rw [HD.out]; exact HO.out, HB.out⟩
theorem ttext_any (l : List Int) (A : Option Addr) (cap : Nat) (w : World) (hm : l.length <= 65536) (hcap : l.length <= cap) (hA : Bs w w.heap.size .i64 A l) :
 Calls Try.prog 102 #[.slice A l.length cap] w fun e w' => e = .returned (.string (Tk.str l)) /\ Below w.heap.size w w' := by
 have C1 := Lib.hid ((rwrite_any l A cap w hm hcap hA).mono fun _ _ h => made_form h)
 clear hA
 unfold Tk.str
 generalize Ru.wr l = r at *
 go_enter Try.func102, Try.ntmps102
 go_wp2_with (go_at_call 110; ((with_reducible refine (C1.out).mono ?_); rintro e w1 ⟨A1, c1, rfl, k1, B1, b1⟩; have cv := conv_bytes c1 B1))
 go_ret
 exact ⟨rfl, b1⟩
def NameAt (l : List Int) (k0 : Nat) (w : World) (v1 v6 : Value) (wr : World) : Prop :=
 ∃ (k : Nat) (ds : List Int), k <= l.length /\ v1 = .int .i64 k /\ Hid (Tk.name l k0 = (ds ++ (Tk.name l k).1, (Tk.name l k).2)) /\ wr.ownsRow w.heap.size 3 1 v6 ds.length (nums .i64 ds) /\ Below w.heap.size w wr /\ ds.length <= k
def Named (l : List Int) (k : Nat) (w : World) (e : Ending) (w' : World) : Prop := e = .returned (.tuple #[.string (Tk.str (Tk.name l k).1), .int .i64 ((Tk.name l k).2 : Nat)]) /\ Below w.heap.size w w'
theorem tname_any (l : List Int) (x : Int) (k0 : Nat) (hx : x = (k0 : Int)) (b off cap : Nat) (w : World) (hm : l.length <= 65536) (hk0 : k0 <= l.length) (hb : b < w.heap.size) (hp : On w l b off) :
 Calls Try.prog 97 #[.slice (some ⟨b, off, none⟩) l.length cap, .int .i64 x] w (Named l k0 w) := by
 subst hx
 obtain ⟨i0, hi, hz0, hz1, hz2⟩ := info_parts Try.info3
 have CA : Hid (∀ wr, Below w.heap.size w wr -> AtIs l b off cap wr) := Lib.hid fun wr h => (at_is l b off cap wr hm (hp.below hb h)).out
 have CE : Hid (∀ wr, Below w.heap.size w wr -> EscIs l b off cap wr) := Lib.hid fun wr h => (esc_is l b off cap wr hm (hp.below hb h)).out
 have CM : Hid (∀ wr (k : Nat), Below w.heap.size w wr -> k + 1 < l.length -> Calls Try.prog 105 #[.slice (some ⟨b, off, none⟩) l.length cap, .int .i64 k] wr fun e w' => e = .returned (.tuple #[.int .i64 (Tk.meant l k).1, .int .i64 ((Tk.meant l k).2 : Nat)]) /\ wr = w') := Lib.hid fun wr k h hk => tmeant_any l k b off cap wr hm hk (hp.below hb h)
 clear hp
 go_enter Try.func97, Try.ntmps97
 go_wp2_with fail
 go_loopw [1, 6] (fun v1 v6 wr => NameAt l k0 w v1 v6 wr) (fun v1 _ _ => l.length - (RowKit.intOf v1).toNat)
 case atStart => exact ⟨k0, [], hk0, rfl, Lib.hid rfl, World.ownsRow_nil _ _ _ _, Below.refl _ _, by simp⟩
 case round =>
  obtain ⟨k, ds, hk, rfl, hrd, hown, hbel, hds⟩ := hrel
  have HO := Lib.hid hown
  have HB := Lib.hid hbel
  clear hown hbel
  have A0 := Lib.hid (CA.out wr HB.out _ k rfl)
  have E0 := Lib.hid (CE.out wr HB.out _ k rfl (by omega))
  have hin : Tk.inN l k = (Tk.esc l k || Ru.witB (Tk.at' l k)) := rfl
  have hc3 : ds.length + 1 <= maxLen := by unfold maxLen; omega
  have hc4 : (ds.length + 1) * 8 <= 140737488355328 := by omega
  cases hI : Tk.inN l k
  ·have hN := Tk.name_no hI
   rw [hI] at hin
   have hor : Tk.esc l k = false /\ Ru.witB (Tk.at' l k) = false := by simpa using hin.symm
   obtain ⟨he, hw⟩ := hor
   have HD : Hid (Tk.name l k0 = (ds, k)) := Lib.hid (by rw [hrd.out, hN, List.append_nil])
   obtain ⟨A1, c1, hv, k1, B1⟩ := own_bs HO.out
   subst hv
   have CT := Lib.hid (ttext_any ds A1 c1 wr (by omega) k1 B1)
   clear hin hN hrd CA CE CM
   generalize Tk.at' l k = a at *
   generalize Tk.esc l k = eb at *
   go_wp2_with (first | (go_at_call 93; ((with_reducible refine (A0.out).mono ?_); rintro e w' ⟨rfl, rfl⟩)) | (go_at_call 96; ((with_reducible refine (E0.out).mono ?_); rintro e w' ⟨rfl, rfl⟩)) | (go_at_call 95; ((with_reducible refine (rwithin_any _ _).mono ?_); rintro e w' ⟨rfl, rfl⟩)) | (go_at_call 102; ((with_reducible refine (CT.out).mono ?_); rintro e w2 ⟨rfl, b2⟩)))
   go_ret2
   exact ⟨by rw [HD.out]; rfl, HB.out.trans (b2.mono HB.out.size)⟩
  ·have hone := Tk.oneN_le hI
   have hlt := Tk.inN_lt hI
   have HD : Hid (Tk.name l k0 = ((ds ++ [(Tk.oneN l k).1]) ++ (Tk.name l (Tk.oneN l k).2).1, (Tk.name l (Tk.oneN l k).2).2)) := Lib.hid (by rw [hrd.out, Tk.name_yes hI, List.append_assoc]; rfl)
   by_cases h92 : Tk.at' l k = 92
   ·have he := Tk.inN_esc hI h92
    have M0 := Lib.hid (CM.out wr k HB.out (Tk.esc_lt he).1)
    have e1 : Tk.oneN l k = Tk.meant l k := by unfold Tk.oneN; rw [if_pos h92]
    rw [e1] at hone HD
    clear hin hI hrd CA CE CM e1
    generalize Tk.esc l k = eb at *
    subst he
    rw [h92] at A0
    clear h92
    generalize Tk.meant l k = me at *
    obtain ⟨c, k'⟩ := me
    simp only at hone HD M0
    go_wp2_with (first | (go_at_call 93; ((with_reducible refine (A0.out).mono ?_); rintro e w' ⟨rfl, rfl⟩)) | (go_at_call 96; ((with_reducible refine (E0.out).mono ?_); rintro e w' ⟨rfl, rfl⟩)) | (go_at_call 95; ((with_reducible refine (rwithin_any _ _).mono ?_); rintro e w' ⟨rfl, rfl⟩)) | (go_at_call 105; ((with_reducible refine (M0.out).mono ?_); rintro e w' ⟨rfl, rfl⟩)) | (at_builtin; refine wpList_append_own _ rfl _ _ 39 rfl w.heap.size 3 i0 (.int .i64 0) 1 8 Try.underlying39 hi hz0 hz1 hz2 rfl (by decide) _ _ _ rfl (HO.out.alloc _) ⟨wr.heap.size, 0, none⟩ 1 1 [.int .i64 c] rfl rfl (one_cell _ _) (one_ok _) hc3 hc4 (alloc_size HB.out.size _) ?_; intro v' w3 hown3 hgrow _; have HO3 := Lib.hid (made_next HO.out HB.out (Below.refl _ _) hown3 hgrow); clear hown3 hgrow))
    go_roundw
    case rel => exact ⟨k', ds ++ [c], hone.2, rfl, HD, HO3.out.1, HO3.out.2, by simp; omega⟩
    case measure => simp [RowKit.intOf]; omega
   ·have e1 : Tk.oneN l k = (Tk.at' l k, k + 1) := by unfold Tk.oneN; rw [if_neg h92]
    rw [e1] at hone HD
    have f92 := Ru.eq_f h92
    rw [hI] at hin
    have hor : Tk.esc l k = true ∨ (Tk.esc l k = false /\ Ru.witB (Tk.at' l k) = true) := by
     cases he : Tk.esc l k
     ·rw [he] at hin; right; exact ⟨rfl, by simpa using hin.symm⟩
     ·left; rfl
    clear hin hI hrd CA CE CM e1 h92
    generalize Tk.at' l k = a at *
    generalize Tk.esc l k = eb at *
    rcases hor with rfl | ⟨rfl, hw⟩
    all_goals
     go_wp2_with (first | (go_at_call 93; ((with_reducible refine (A0.out).mono ?_); rintro e w' ⟨rfl, rfl⟩)) | (go_at_call 96; ((with_reducible refine (E0.out).mono ?_); rintro e w' ⟨rfl, rfl⟩)) | (go_at_call 95; ((with_reducible refine (rwithin_any _ _).mono ?_); rintro e w' ⟨rfl, rfl⟩)) | (at_builtin; refine wpList_append_own _ rfl _ _ 39 rfl w.heap.size 3 i0 (.int .i64 0) 1 8 Try.underlying39 hi hz0 hz1 hz2 rfl (by decide) _ _ _ rfl (HO.out.alloc _) ⟨wr.heap.size, 0, none⟩ 1 1 [.int .i64 a] rfl rfl (one_cell _ _) (one_ok _) hc3 hc4 (alloc_size HB.out.size _) ?_; intro v' w3 hown3 hgrow _; have HO3 := Lib.hid (made_next HO.out HB.out (Below.refl _ _) hown3 hgrow); clear hown3 hgrow))
     go_roundw
     case rel => exact ⟨k + 1, ds ++ [a], by omega, by go_num, HD, HO3.out.1, HO3.out.2, by simp; omega⟩
     case measure => simp [RowKit.intOf]; omega
theorem tquoted_any (l : List Int) (k0 : Nat) (b off cap : Nat) (w : World) (hm : l.length <= 65000) (hk0 : k0 < l.length) (hb : b < w.heap.size) (hp : On w l b off) :
 Calls Try.prog 94 #[.slice (some ⟨b, off, none⟩) l.length cap, .int .i64 k0] w (Tokened (Tk.qq l (Ru.g l k0) (k0 + 1)).1 (Tk.str (Tk.qq l (Ru.g l k0) (k0 + 1)).2.1) 0 (Tk.qq l (Ru.g l k0) (k0 + 1)).2.2 w) := by
 obtain ⟨i0, hi, hz0, hz1, hz2⟩ := info_parts Try.info3
 have hc0 := hp k0 hk0
 have HP := Lib.hid hp
 have HX : Hid (∃ e, Ru.g l k0 = e) := Lib.hid ⟨_, rfl⟩
 obtain ⟨e, he⟩ := HX.out
 rw [he] at hc0 ⊢
 clear HX hp he
 go_enter Try.func94, Try.ntmps94
 go_wp2_with fail
 go_loopw [1, 7] (fun v1 v7 wr => QuoAt l e (k0 + 1) w v1 v7 wr) (fun v1 _ _ => l.length + 2 - (RowKit.intOf v1).toNat)
 case atStart => exact ⟨k0 + 1, [], by omega, by go_num, Lib.hid rfl, World.ownsRow_nil _ _ _ _, Lib.hid (Below.refl _ _), by simp⟩
 case round =>
  obtain ⟨k, ds, hk, rfl, hrd, hown, HB, hds⟩ := hrel
  have HO := Lib.hid hown
  clear hown
  have hpw : On wr l b off := fun j hj => (HB.out.cell (p := ⟨b, off + j, none⟩) (by show b < _; omega)).trans ((World.cell?_alloc_lt w _ _ (by exact hb)).trans (HP.out j hj))
  have hc3 : ds.length + 1 <= maxLen := by unfold maxLen; omega
  have hc4 : (ds.length + 1) * 8 <= 140737488355328 := by omega
  by_cases hlt : k < l.length
  ·have hcell := hpw k hlt
   by_cases hge : Ru.g l k = e
   ·have hne := Ru.ne_f hge
    have HQ := Tk.qq_end (l := l) (e := e) (k := k) (fun h => h.2 hge)
    have HD : Hid (Tk.qq l e (k0 + 1) = (6, ds, min (k + 1) l.length)) := Lib.hid (by rw [hrd.out, HQ]; simp [Tk.pushes])
    obtain ⟨A1, c1, hv, k1, B1⟩ := own_bs HO.out
    subst hv
    have CT := Lib.hid (ttext_any ds A1 c1 wr (by omega) k1 B1)
    clear hge hpw HQ hrd
    generalize Ru.g l k = y at *
    go_wp2_with (go_at_call 102; ((with_reducible refine (CT.out).mono ?_); rintro e w2 ⟨rfl, b2⟩; have hb2 := quo_below HB.out b2; obtain ⟨z0, z1, z2, f0, f1, f2⟩ := tok_cells hb2))
    refine bodyPost_ret (v := .tuple #[tokV 6 (Tk.str ds) 0, .int .i64 (min ((k : Int) + 1) (l.length : Int))]) (by simp [results, tokV, Try.results94, go_sem, z0, z1, z2]) rfl ⟨tok_ret (by rw [HD.out]) (by rw [HD.out]) rfl (by rw [HD.out]; simp only; omega), tok_below hb2 _ _ _⟩
   ·have hne := Ru.ne_t hge
    have HQ := Tk.qq_step (l := l) (e := e) (k := k) ⟨hlt, hge⟩
    by_cases h10 : Ru.g l k = 10
    ·rw [if_pos h10] at HQ
     have HD : Hid (Tk.qq l e (k0 + 1) = (7, ds, k)) := Lib.hid (by rw [hrd.out, HQ]; simp [Tk.pushes])
     obtain ⟨A1, c1, hv, k1, B1⟩ := own_bs HO.out
     subst hv
     have CT := Lib.hid (ttext_any ds A1 c1 wr (by omega) k1 B1)
     rw [h10] at hcell hne
     clear hge hpw HQ hrd h10
     go_wp2_with (go_at_call 102; ((with_reducible refine (CT.out).mono ?_); rintro e w2 ⟨rfl, b2⟩; have hb2 := quo_below HB.out b2; obtain ⟨z0, z1, z2, f0, f1, f2⟩ := tok_cells hb2))
     refine bodyPost_ret (v := .tuple #[tokV 7 (Tk.str ds) 0, .int .i64 ((k : Int))]) (by simp [results, tokV, Try.results94, go_sem, z0, z1, z2]) rfl ⟨tok_ret (by rw [HD.out]) (by rw [HD.out]) rfl (by rw [HD.out]), tok_below hb2 _ _ _⟩
    ·rw [if_neg h10] at HQ
     have e10 := Ru.eq_f h10
     have E0 := Lib.hid ((esc_is l b off cap wr (by omega) hpw).out _ k rfl (by omega))
     cases he : Tk.esc l k
     ·rw [he, if_neg (by decide)] at HQ
      rw [he] at E0
      by_cases h92 : Ru.g l k = 92
      ·rw [if_pos h92] at HQ
       have HD : Hid (Tk.qq l e (k0 + 1) = Tk.pushes ds (Tk.qq l e (k + 2))) := Lib.hid (by rw [hrd.out, HQ])
       rw [h92] at hcell hne e10
       clear hge hpw HQ hrd h10 he h92
       go_wp2_with (go_at_call 96; ((with_reducible refine (E0.out).mono ?_); rintro e w' ⟨rfl, rfl⟩))
       go_roundw
       case rel => exact ⟨k + 2, ds, by omega, by go_num, HD, HO.out, HB, by omega⟩
       case measure => simp [RowKit.intOf]; omega
      ·rw [if_neg h92] at HQ
       have e92 := Ru.eq_f h92
       have HD : Hid (Tk.qq l e (k0 + 1) = Tk.pushes (ds ++ [Ru.g l k]) (Tk.qq l e (k + 1))) := Lib.hid (by rw [hrd.out, HQ]; simp [Tk.pushes, Tk.push])
       clear hge hpw HQ hrd h10 he h92
       generalize Ru.g l k = y at *
       go_wp2_with (first | (go_at_call 96; ((with_reducible refine (E0.out).mono ?_); rintro e w' ⟨rfl, rfl⟩)) | (at_builtin; refine wpList_append_own _ rfl _ _ 39 rfl (w.heap.size + 1) 3 i0 (.int .i64 0) 1 8 Try.underlying39 hi hz0 hz1 hz2 rfl (by decide) _ _ _ rfl (HO.out.alloc _) ⟨wr.heap.size, 0, none⟩ 1 1 [.int .i64 y] rfl rfl (one_cell _ _) (one_ok _) hc3 hc4 (alloc_size (quo_size HB.out) _) ?_; intro v' w3 hown3 hgrow _; have HO3 := Lib.hid (quo_next HO.out HB.out hown3 hgrow); clear hown3 hgrow))
       go_roundw
       case rel => exact ⟨k + 1, ds ++ [y], by omega, by go_num, HD, HO3.out.1, Lib.hid HO3.out.2, by simp; omega⟩
       case measure => simp [RowKit.intOf]; omega
     ·rw [if_pos he] at HQ
      rw [he] at E0
      have M0 := Lib.hid (tmeant_any l k b off cap wr (by omega) (Tk.esc_lt he).1 hpw)
      have hml := Tk.meant_le (Tk.esc_lt he).1
      have HD : Hid (Tk.qq l e (k0 + 1) = Tk.pushes (ds ++ [(Tk.meant l k).1]) (Tk.qq l e (Tk.meant l k).2)) := Lib.hid (by rw [hrd.out, HQ]; simp [Tk.pushes, Tk.push])
      clear hge hpw HQ hrd h10 he
      generalize Ru.g l k = y at *
      generalize Tk.meant l k = me at *
      obtain ⟨c, k'⟩ := me
      simp only at HD M0 hml
      go_wp2_with (first | (go_at_call 96; ((with_reducible refine (E0.out).mono ?_); rintro e w' ⟨rfl, rfl⟩)) | (go_at_call 105; ((with_reducible refine (M0.out).mono ?_); rintro e w' ⟨rfl, rfl⟩)) | (at_builtin; refine wpList_append_own _ rfl _ _ 39 rfl (w.heap.size + 1) 3 i0 (.int .i64 0) 1 8 Try.underlying39 hi hz0 hz1 hz2 rfl (by decide) _ _ _ rfl (HO.out.alloc _) ⟨wr.heap.size, 0, none⟩ 1 1 [.int .i64 c] rfl rfl (one_cell _ _) (one_ok _) hc3 hc4 (alloc_size (quo_size HB.out) _) ?_; intro v' w3 hown3 hgrow _; have HO3 := Lib.hid (quo_next HO.out HB.out hown3 hgrow); clear hown3 hgrow))
      go_roundw
      case rel => exact ⟨k', ds ++ [c], by omega, rfl, HD, HO3.out.1, Lib.hid HO3.out.2, by simp; omega⟩
      case measure => simp [RowKit.intOf]; omega
  ·have HQ := Tk.qq_end (l := l) (e := e) (k := k) (fun h => hlt h.1)
   have HD : Hid (Tk.qq l e (k0 + 1) = (6, ds, min (k + 1) l.length)) := Lib.hid (by rw [hrd.out, HQ]; simp [Tk.pushes])
   obtain ⟨A1, c1, hv, k1, B1⟩ := own_bs HO.out
   subst hv
   have CT := Lib.hid (ttext_any ds A1 c1 wr (by omega) k1 B1)
   clear hpw HQ hrd
   go_wp2_with (go_at_call 102; ((with_reducible refine (CT.out).mono ?_); rintro e w2 ⟨rfl, b2⟩; have hb2 := quo_below HB.out b2; obtain ⟨z0, z1, z2, f0, f1, f2⟩ := tok_cells hb2))
   refine bodyPost_ret (v := .tuple #[tokV 6 (Tk.str ds) 0, .int .i64 (min ((k : Int) + 1) (l.length : Int))]) (by simp [results, tokV, Try.results94, go_sem, z0, z1, z2]) rfl ⟨tok_ret (by rw [HD.out]) (by rw [HD.out]) rfl (by rw [HD.out]; simp only; omega), tok_below hb2 _ _ _⟩
theorem run_load_one (x : Int) (W : World) (E : TypeId) : (loadCells ⟨W.heap.size, 0, none⟩ 1).run Try.prog (W.alloc (.cells #[.int .u8 x] E)) = .ok #[.int .u8 x] (W.alloc (.cells #[.int .u8 x] E)) :=
 run_loadCells_list (P := Try.prog) _ ⟨W.heap.size, 0, none⟩ [.int .u8 x] (fun j v hj => by
  match j, hj with
  | 0, hj => simp only [List.getElem?_cons_zero, Option.some.injEq] at hj; subst hj; simp [Addr.add, go_sem])
theorem conv_one (x : Int) (W : World) : (convert 103 9 (.slice (some ⟨W.heap.size, 0, none⟩) 1 1)).run Try.prog (W.alloc (.cells #[.int .u8 x] 5)) = .ok (.string ⟨#[UInt8.ofNat x.toNat]⟩) (W.alloc (.cells #[.int .u8 x] 5)) := by
 rw [run_convert_bytes_string _ _ _ 5 _ _ _ Try.underlying103 Try.underlying5 Try.underlying9]
 rw [run_bytesToString _ _ _ _ [x] (by rw [run_load_one]; rfl)]
 rfl
theorem ret_str {a b : ByteArray} (h : a = b) : Ending.returned (.string a) = .returned (.string b) := by rw [h]
def AscAt (l : List Int) (k0 : Nat) (w : World) (v1 v5 : Value) (wr : World) : Prop :=
 ∃ (k : Nat) (t : ByteArray) (ds : List Int), k <= l.length + k0 /\ v1 = .int .i64 k /\ v5 = .string t /\ Hid (Tk.Sp t ds) /\ t.size <= k /\ Hid (Tk.ascL l k0 = ds ++ Tk.ascL l k) /\ Below w.heap.size w wr
theorem tascii_any (l : List Int) (k0 : Nat) (b off cap : Nat) (w : World) (hm : l.length <= 65536) (hk0 : k0 <= l.length) (hN : ∀ c ∈ l, 0 <= c) (hb : b < w.heap.size) (hp : On w l b off) :
 Calls Try.prog 98 #[.slice (some ⟨b, off, none⟩) l.length cap, .int .i64 k0] w fun e w' => e = .returned (.string (strOfNums (Tk.ascL l k0))) /\ Below w.heap.size w w' := by
 have HP := Lib.hid hp
 have HN := Lib.hid hN
 clear hp hN
 go_enter Try.func98, Try.ntmps98
 go_wp2_with fail
 go_loopw [1, 5] (fun v1 v5 wr => AscAt l k0 w v1 v5 wr) (fun v1 _ _ => l.length - (RowKit.intOf v1).toNat)
 case atStart => exact ⟨k0, ⟨#[]⟩, [], by omega, rfl, rfl, Lib.hid Tk.sp_nil, by show 0 <= _; omega, Lib.hid rfl, Below.refl _ _⟩
 case round =>
  obtain ⟨k, t, ds, hk, rfl, rfl, hs, hsz, hd, hbel⟩ := hrel
  have HB := Lib.hid hbel
  have hbs := hbel.size
  clear hbel
  have hpw : On wr l b off := HP.out.below hb HB.out
  by_cases hlt : k < l.length
  ·have hcell := hpw k hlt
   have hx0 := HN.out _ (List.getElem_mem hlt)
   rw [<- Ru.g_eq hlt] at hx0
   by_cases h128 : Ru.g l k < 128
   ·have hcv := conv_one
    have HD : Hid (Tk.ascL l k0 = (ds ++ [Ru.g l k]) ++ Tk.ascL l (k + 1)) := Lib.hid (by rw [hd.out, Tk.ascL_yes hlt h128, List.append_assoc]; rfl)
    have HS := Lib.hid (Tk.sp_next (x := Ru.g l k) hs.out)
    clear hpw hd
    generalize Ru.g l k = x at *
    go_wp2_with fail
    go_roundw
    case rel => exact ⟨k + 1, _, ds ++ [x], by omega, by go_num, rfl, HS, by simp only [ByteArray.size_append]; show _ + 1 <= _; omega, HD, HB.out.alloc hbs _⟩
    case measure => simp [RowKit.intOf]; omega
   ·have HD : Hid (Tk.ascL l k0 = ds) := Lib.hid (by rw [hd.out, Tk.ascL_no (fun h => h128 h.2), List.append_nil])
    clear hpw hd
    generalize Ru.g l k = x at *
    go_wp2_with fail
    go_ret
    exact ⟨ret_str (by rw [HD.out]; exact Tk.sp_str hs.out), HB.out⟩
  ·have HD : Hid (Tk.ascL l k0 = ds) := Lib.hid (by rw [hd.out, Tk.ascL_no (fun h => hlt h.1), List.append_nil])
   clear hpw hd
   go_wp2_with fail
   go_ret
   exact ⟨ret_str (by rw [HD.out]; exact Tk.sp_str hs.out), HB.out⟩
namespace Fx
def stop (n : Int) : Int := max (-1099511627776) (min n 1099511627776)
theorem stop_lo (n : Int) : -1099511627776 <= stop n := by unfold stop; omega
theorem stop_hi (n : Int) : stop n <= 1099511627776 := by unfold stop; omega
theorem stop_id {n : Int} (h1 : -1099511627776 <= n) (h2 : n <= 1099511627776) : stop n = n := by unfold stop; omega
theorem stop_stop (n : Int) : stop (stop n) = stop n := stop_id (stop_lo n) (stop_hi n)
end Fx
theorem rstop_any (n : Int) (w : World) :
 Calls Try.prog 108 #[.int .i64 n] w fun e w' => e = .returned (.int .i64 (Fx.stop n)) /\ w = w' := by
 go_enter Try.func108, Try.ntmps108
 go_wp2
 all_goals (go_ret; exact ⟨ret_int (by unfold Fx.stop; omega), rfl⟩)
theorem rstop_min (n : Int) (w : World) (h : 0 <= n) :
 Calls Try.prog 108 #[.int .i64 n] w fun e w' => e = .returned (.int .i64 (min n 1099511627776)) /\ w = w' := by
 refine (rstop_any n w).mono ?_
 rintro e w' ⟨he, hw⟩
 refine ⟨?_, hw⟩
 rw [he]; exact ret_int (by unfold Fx.stop; omega)
theorem sub_byte {c : UInt8} (h : 48 <= (c.toNat : Int)) : ((c.toNat : Int) - 48) = ((Fx.dv c : Nat) : Int) := by unfold Fx.dv; omega
namespace Fx
theorem V_succ (f : Nat -> Nat) (n : Nat) : V f (n + 1) = V f n * 10 + f n := rfl
theorem V_le (f : Nat -> Nat) {a b : Nat} (h : a <= b) : V f a <= V f b := by
 have := V_mono f a (b - a); rw [show a + (b - a) = b by omega] at this; exact this
theorem V_still (f : Nat -> Nat) {a b : Nat} (h0 : V f a = 0) (hf : ∀ i, a <= i -> f i = 0) (h : a <= b) : V f b = 0 := by
 have := V_zero f a h0 hf (b - a); rw [show a + (b - a) = b by omega] at this; exact this
end Fx
theorem digit_any (s : ByteArray) (a : Int) (w : World) (_hs : s.size <= maxLen) (h0 : 0 <= a) :
 Calls Try.prog 107 #[.string s, .int .i64 a] w fun e w' => e = .returned (.bool (Fx.isD (Fx.at' s.data.toList a.toNat))) /\ w = w' := by
 obtain ⟨k, rfl⟩ := Int.eq_ofNat_of_zero_le h0
 rw [Int.toNat_natCast]
 by_cases hk : k < s.size
 ·have G := Lib.hid (Fx.get_at s k hk)
  by_cases d1 : 48 <= (s[k].toNat : Int)
  ·by_cases d2 : (s[k].toNat : Int) <= 57
   ·have Y := Lib.hid (Fx.isD_of d1 d2)
    go_enter Try.func107, Try.ntmps107
    go_wp2
    go_ret
    exact ⟨ret_bool (by rw [G.out, Y.out]), rfl⟩
   ·have Y := Lib.hid (Fx.isD_not (Or.inr (Int.not_le.1 d2)))
    have d3 : decide ((s[k].toNat : Int) <= 57) = false := decide_eq_false d2
    go_enter Try.func107, Try.ntmps107
    go_wp2
    go_ret
    exact ⟨ret_bool (by rw [G.out, Y.out]), rfl⟩
  ·have Y := Lib.hid (Fx.isD_not (Or.inl (Int.not_le.1 d1)))
   go_enter Try.func107, Try.ntmps107
   go_wp2
   go_ret
   exact ⟨ret_bool (by rw [G.out, Y.out]), rfl⟩
 ·have G := Lib.hid (Fx.get_past s k (by omega))
  go_enter Try.func107, Try.ntmps107
  go_wp2
  go_ret
  exact ⟨ret_bool (by rw [G.out]; rfl), rfl⟩
theorem digit_is (s : ByteArray) (hs : s.size <= maxLen) (a : Int) (i : Nat) (b : Bool) (ha : a = i) (hb : Fx.isD (Fx.at' s.data.toList i) = b) :
 Hid (∀ w : World, Calls Try.prog 107 #[.string s, .int .i64 a] w fun e w' => e = .returned (.bool b) /\ w = w') := by
 subst ha hb
 exact fun w => digit_any s i w hs (by omega)
inductive WayG (s : ByteArray) (k j : Nat) : Prop
 | plus (h : k < s.size) (hb : ((s[k].toNat : Int) == 43) = true) (hj : j = k + 1)
 | minus (h : k < s.size) (hb : ((s[k].toNat : Int) == 43) = false) (hc : ((s[k].toNat : Int) == 45) = true) (hj : j = k + 1)
 | other (h : k < s.size) (hb : ((s[k].toNat : Int) == 43) = false) (hc : ((s[k].toNat : Int) == 45) = false) (hj : j = k)
 | past (h : ¬ k < s.size) (hj : j = k)
theorem wayG (s : ByteArray) (k : Nat) : WayG s k (Fx.sgn s.data.toList k) := by
 have e0 : Fx.sgn s.data.toList k = if (Fx.at' s.data.toList k = 43 ∨ Fx.at' s.data.toList k = 45) then k + 1 else k := rfl
 by_cases h : k < s.size
 ·have hg := Fx.get_at s k h
  rw [hg] at e0
  by_cases hb : s[k] = 43
  ·rw [if_pos (Or.inl hb)] at e0
   exact .plus h (by rw [hb]; rfl) e0
  ·have hb1 : ((s[k].toNat : Int) == 43) = false := by
    rw [Bool.eq_false_iff]; intro hh; exact hb ((byte_eq (n := 43) (by decide)).1 hh)
   by_cases hc : s[k] = 45
   ·rw [if_pos (Or.inr hc)] at e0
    exact .minus h hb1 (by rw [hc]; rfl) e0
   ·have hc1 : ((s[k].toNat : Int) == 45) = false := by
     rw [Bool.eq_false_iff]; intro hh; exact hc ((byte_eq (n := 45) (by decide)).1 hh)
    rw [if_neg (by intro h; exact h.elim hb hc)] at e0
    exact .other h hb1 hc1 e0
 ·rw [Fx.get_past s k (by omega), if_neg (by decide)] at e0
  exact .past h e0
theorem wayG_pos {s : ByteArray} {k j : Nat} (h : WayG s k j) : j = k ∨ j = k + 1 := by cases h <;> omega
theorem rlength_any (s : ByteArray) (w : World) (hs : s.size <= maxLen) :
 Calls Try.prog 99 #[.string s] w fun e w' => e = .returned (.int .i64 (Fx.len s.data.toList : Nat)) /\ w = w' := by
 have hs' := hs
 unfold maxLen at hs'
 have b1 := Fx.spS_hi s.data.toList
 have b2 := Fx.spW_hi s.data.toList
 have b3 := Fx.spW_lo s.data.toList
 have b4 := Fx.spD_hi s.data.toList
 have b5 := Fx.spD_lo s.data.toList
 have b6 := Fx.spE_hi s.data.toList
 have b7 := Fx.spE_lo s.data.toList
 have hl : s.data.toList.length = s.size := by simp
 rw [hl] at b1 b2 b4 b6
 have hw := Lib.hid (Fx.wayD s (Fx.spW s.data.toList))
 have he := Lib.hid (Fx.wayE s (Fx.spD s.data.toList))
 have hss : WayG s 0 (Fx.spS s.data.toList) := wayG s 0
 have hgf := wayG s (Fx.spD s.data.toList + 1)
 have gf := Fx.sgn_hi s.data.toList (Fx.spD s.data.toList + 1)
 have e1 : Hid (Fx.dig s.data.toList (Fx.spS s.data.toList) = Fx.spW s.data.toList) := Lib.hid rfl
 have e2 : Fx.spDof s.data.toList (Fx.spW s.data.toList) = Fx.spD s.data.toList := rfl
 have e3 : Fx.spEof s.data.toList (Fx.spD s.data.toList) = Fx.spE s.data.toList := rfl
 have hL : Hid (Fx.len s.data.toList = if Fx.spD s.data.toList = Fx.spS s.data.toList then 0 else Fx.spE s.data.toList) := Lib.hid rfl
 rw [e2] at hw
 rw [e3] at he
 clear e2 e3
 rw [hl] at gf
 generalize Fx.spE s.data.toList = en at *
 generalize Fx.spD s.data.toList = d at *
 generalize Fx.spW s.data.toList = k at *
 generalize Fx.spS s.data.toList = j at *
 clear hl
 have HGF := Lib.hid hgf
 have GF := Lib.hid gf
 clear hgf gf
 go_enter Try.func99, Try.ntmps99
 go_upto_region 2 with fail
 go_cut [18] (fun s18 wc => s18 = .bool (decide (j = 1)) /\ w = wc)
 case first =>
  rcases hss with ⟨h, hb, rfl⟩ | ⟨h, hb, hc, rfl⟩ | ⟨h, hb, hc, rfl⟩ | ⟨h, rfl⟩
  all_goals (go_wp2_with fail; go_meet; exact ⟨rfl, rfl⟩)
 case rest =>
  obtain ⟨rfl, rfl⟩ := hcut
  have hj : j = 0 ∨ j = 1 := wayG_pos hss
  clear hss
  go_upto_if 18 with fail
  go_cut [3] (fun s3 wc => s3 = .int .i64 j /\ w = wc)
  case first =>
   rcases hj with rfl | rfl
   all_goals (go_wp2_with fail; go_meet; exact ⟨rfl, rfl⟩)
  case rest =>
   obtain ⟨rfl, rfl⟩ := hcut
   go_wp2_with fail
   go_loop [3, 4] (fun s3 s4 => ∃ i : Nat, i <= s.size /\ j <= i /\ s3 = .int .i64 i /\ s4 = .bool (decide (j < i)) /\ Hid (Fx.dig s.data.toList i = k)) (fun s3 _ => s.size - (intOf s3).toNat)
   case atStart => exact ⟨j, b1, Nat.le_refl _, rfl, by simp, e1⟩
   case round =>
    obtain ⟨i, hi, hji, rfl, rfl, H⟩ := hrel
    cases hd : Fx.isD (Fx.at' s.data.toList i)
    ·have hik : i = k := by have := Fx.dig_no _ _ hd; have := H.out; omega
     subst hik
     have C := digit_is s hs i i false rfl hd
     clear hd H
     have hwD := hw.out
     clear hw
     go_upto_region 8 with (go_at_call 107; ((with_reducible refine (C.out _).mono ?_); rintro e w' ⟨rfl, rfl⟩))
     go_cut [39] (fun s39 wc => s39 = .bool (decide (i < d)) /\ w = wc)
     case first =>
      clear C
      rcases hwD with ⟨h, hb, hd, hl⟩ | ⟨h, hb, hd, hk⟩ | ⟨h, hb, hk⟩ | ⟨h, hk⟩
      ·have C1 := digit_is s hs ((i : Int) + 1) (i + 1) true rfl (by rw [Fx.isD_dig]; apply decide_eq_true; omega)
       clear hd
       go_wp2_with (go_at_call 107; ((with_reducible refine (C1.out _).mono ?_); rintro e w' ⟨rfl, rfl⟩))
       go_meet
       exact ⟨by congr 1; symm; apply decide_eq_true; omega, rfl⟩
      ·have C1 := digit_is s hs ((i : Int) + 1) (i + 1) false rfl (by rw [Fx.isD_dig]; apply decide_eq_false; omega)
       subst hk
       clear hd
       go_wp2_with (go_at_call 107; ((with_reducible refine (C1.out _).mono ?_); rintro e w' ⟨rfl, rfl⟩))
       go_meet
       exact ⟨by congr 1; symm; apply decide_eq_false; omega, rfl⟩
      ·subst hk
       go_wp2_with fail
       go_meet
       exact ⟨by congr 1; symm; apply decide_eq_false; omega, rfl⟩
      ·subst hk
       go_wp2_with fail
       go_meet
       exact ⟨by congr 1; symm; apply decide_eq_false; omega, rfl⟩
     case rest =>
      obtain ⟨rfl, rfl⟩ := hcut
      clear C
      have HW := Lib.hid hwD
      clear hwD
      go_upto_if 39 with fail
      go_cut [3, 4] (fun s3 s4 wc => s3 = .int .i64 d /\ s4 = .bool (decide (j < d)) /\ w = wc)
      case first =>
       by_cases hid : i < d
       ·have hb39 : decide (i < d) = true := decide_eq_true hid
        have hjd : decide (j < d) = true := decide_eq_true (by omega)
        have hdd : Hid (Fx.dig s.data.toList (i + 1) = d) := by
         rcases HW.out with ⟨h, hb, hd, hl⟩ | ⟨h, hb, hd, hk⟩ | ⟨h, hb, hk⟩ | ⟨h, hk⟩
         ·exact hd.symm
         all_goals omega
        rw [hb39]
        clear hb39
        go_wp2_with fail
        go_loop [3] (fun s3 => ∃ t : Nat, t <= s.size /\ s3 = .int .i64 t /\ Hid (Fx.dig s.data.toList t = d)) (fun s3 => s.size - (intOf s3).toNat)
        case atStart => exact ⟨i + 1, by omega, by go_num, hdd⟩
        case round =>
         obtain ⟨t, ht, rfl, H⟩ := hrel
         cases hd : Fx.isD (Fx.at' s.data.toList t)
         ·have hik : t = d := by have := Fx.dig_no _ _ hd; have := H.out; omega
          subst hik
          have C := digit_is s hs t t false rfl hd
          clear hd H
          go_wp2_with (go_at_call 107; ((with_reducible refine (C.out _).mono ?_); rintro e w' ⟨rfl, rfl⟩))
          go_meet
          exact ⟨rfl, by rw [hjd], rfl⟩
         ·have C := digit_is s hs t t true rfl hd
          have hlt := Fx.at_lt hd
          rw [show s.data.toList.length = s.size by simp] at hlt
          have HD := Lib.hid hd
          clear hd
          go_wp2_with (go_at_call 107; ((with_reducible refine (C.out _).mono ?_); rintro e w' ⟨rfl, rfl⟩))
          go_round
          case rel => exact ⟨t + 1, by omega, by go_num, Lib.hid (by rw [<- Fx.dig_yes _ _ HD.out]; exact H.out)⟩
          case measure => simp [intOf]; omega
       ·have hb39 : decide (i < d) = false := decide_eq_false hid
        obtain rfl : d = i := by omega
        go_wp2_with fail
        go_meet
        exact ⟨rfl, rfl, rfl⟩
      case rest =>
       obtain ⟨rfl, rfl, rfl⟩ := hcut
       clear HW
       by_cases hdj : d = j
       ·have hz : decide (j < d) = false := decide_eq_false (by omega)
        have hl0 : Fx.len s.data.toList = 0 := by rw [hL.out, if_pos hdj]
        have HL0 := Lib.hid hl0
        clear hl0 hL
        rw [hz]
        go_wp2_with fail
        go_ret
        exact ⟨ret_int (by rw [HL0.out]; rfl), rfl⟩
       ·have hz : decide (j < d) = true := decide_eq_true (by omega)
        have hl0 : Fx.len s.data.toList = en := by rw [hL.out, if_neg hdj]
        have HL0 := Lib.hid hl0
        clear hl0 hL hdj
        rw [hz]
        clear hz
        rcases he.out with ⟨p, pb, pe, pl⟩ | ⟨p, pb, pe, pd⟩ | ⟨p, pb, pc, pd⟩ | ⟨p, pd⟩
        ·have gfd := GF.out (by omega)
         have hgf := HGF.out
         generalize hf : Fx.sgn s.data.toList (d + 1) = f at *
         have HF : Hid (Fx.dig s.data.toList f = en) := Lib.hid pe.symm
         clear hf GF HGF he pe
         have CT := digit_is s hs f f true rfl (by rw [Fx.isD_dig, HF.out]; exact decide_eq_true pl)
         rcases pb with pb | ⟨pb, pc⟩
         all_goals
          go_upto_region 17 with fail
          go_cut [82] (fun s82 wc => s82 = .bool (decide (f = d + 2)) /\ w = wc)
          case first =>
           clear CT
           rcases hgf with ⟨h, hb, rfl⟩ | ⟨h, hb, hc, rfl⟩ | ⟨h, hb, hc, rfl⟩ | ⟨h, rfl⟩
           all_goals (go_wp2_with fail; try (go_meet; exact ⟨by simp, rfl⟩))
          case rest =>
           obtain ⟨rfl, rfl⟩ := hcut
           have hfd := wayG_pos hgf
           clear hgf
           go_upto_if 82 with fail
           go_cut [5] (fun s5 wc => s5 = .int .i64 f /\ w = wc)
           case first =>
            clear CT
            rcases hfd with rfl | rfl
            ·rw [decide_eq_false (by omega)]; go_wp2_with fail; go_meet; exact ⟨by go_num, rfl⟩
            ·rw [decide_eq_true (by omega)]; go_wp2_with fail; go_meet; exact ⟨by go_num, rfl⟩
           case rest =>
            obtain ⟨rfl, rfl⟩ := hcut
            clear hfd
            have HFD := Lib.hid gfd
            go_wp2_with (go_at_call 107; ((with_reducible refine (CT.out _).mono ?_); rintro e w' ⟨rfl, rfl⟩))
            clear CT
            go_loop [5] (fun s3 => ∃ t : Nat, t <= s.size /\ s3 = .int .i64 t /\ Hid (Fx.dig s.data.toList t = en)) (fun s3 => s.size - (intOf s3).toNat)
            case atStart => exact ⟨f, by omega, rfl, HF⟩
            case round =>
             obtain ⟨t, ht, rfl, H⟩ := hrel
             cases hd : Fx.isD (Fx.at' s.data.toList t)
             ·have hik : t = en := by have := Fx.dig_no _ _ hd; have := H.out; omega
              subst hik
              have C := digit_is s hs t t false rfl hd
              clear hd H
              go_wp2_with (go_at_call 107; ((with_reducible refine (C.out _).mono ?_); rintro e w' ⟨rfl, rfl⟩))
              go_ret
              exact ⟨ret_int (by rw [HL0.out]), rfl⟩
             ·have C := digit_is s hs t t true rfl hd
              have hlt := Fx.at_lt hd
              rw [show s.data.toList.length = s.size by simp] at hlt
              have HD := Lib.hid hd
              clear hd
              go_wp2_with (go_at_call 107; ((with_reducible refine (C.out _).mono ?_); rintro e w' ⟨rfl, rfl⟩))
              go_round
              case rel => exact ⟨t + 1, by omega, by go_num, Lib.hid (by rw [<- Fx.dig_yes _ _ HD.out]; exact H.out)⟩
              case measure => simp [intOf]; omega
        ·have gfd := GF.out (by omega)
         have hgf := HGF.out
         generalize hf : Fx.sgn s.data.toList (d + 1) = f at *
         subst pd
         have CT := digit_is s hs f f false rfl (by rw [Fx.isD_dig, pe]; simp)
         clear hf GF HGF he pe
         rcases pb with pb | ⟨pb, pc⟩
         all_goals
          go_upto_region 17 with fail
          go_cut [82] (fun s82 wc => s82 = .bool (decide (f = en + 2)) /\ w = wc)
          case first =>
           clear CT
           rcases hgf with ⟨h, hb, rfl⟩ | ⟨h, hb, hc, rfl⟩ | ⟨h, hb, hc, rfl⟩ | ⟨h, rfl⟩
           all_goals (go_wp2_with fail; try (go_meet; exact ⟨by simp, rfl⟩))
          case rest =>
           obtain ⟨rfl, rfl⟩ := hcut
           have hfd := wayG_pos hgf
           clear hgf
           go_upto_if 82 with fail
           go_cut [5] (fun s5 wc => s5 = .int .i64 f /\ w = wc)
           case first =>
            clear CT
            rcases hfd with rfl | rfl
            ·rw [decide_eq_false (by omega)]; go_wp2_with fail; go_meet; exact ⟨by go_num, rfl⟩
            ·rw [decide_eq_true (by omega)]; go_wp2_with fail; go_meet; exact ⟨by go_num, rfl⟩
           case rest =>
            obtain ⟨rfl, rfl⟩ := hcut
            clear hfd
            go_wp2_with (go_at_call 107; ((with_reducible refine (CT.out _).mono ?_); rintro e w' ⟨rfl, rfl⟩))
            go_ret
            exact ⟨ret_int (by rw [HL0.out]), rfl⟩
        ·subst pd
         go_wp2_with fail
         go_ret
         exact ⟨ret_int (by rw [HL0.out]), rfl⟩
        ·subst pd
         go_wp2_with fail
         go_ret
         exact ⟨ret_int (by rw [HL0.out]), rfl⟩
    ·have C := digit_is s hs i i true rfl hd
     have hlt := Fx.at_lt hd
     rw [show s.data.toList.length = s.size by simp] at hlt
     have HD := Lib.hid hd
     clear hd
     go_wp2_with (go_at_call 107; ((with_reducible refine (C.out _).mono ?_); rintro e w' ⟨rfl, rfl⟩))
     go_round
     case rel => exact ⟨i + 1, by omega, by omega, by go_num, by congr 1; symm; apply decide_eq_true; omega, Lib.hid (by rw [<- Fx.dig_yes _ _ HD.out]; exact H.out)⟩
     case measure => simp [intOf]; omega
end Go.Proofs.Ytaofkaehhikfaaa
