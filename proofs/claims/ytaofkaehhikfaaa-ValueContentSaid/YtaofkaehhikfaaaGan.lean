/-
  The walk of the reference's Meant: what an escape means.
-/
import Derived.Test.YtaofkaehhikfaaaGam
import Derived.Test.YtaofkaehhikfaaaGaa
import Derived.LoopTactic
import Derived.Test.YtaofkaehhikfaaaGad
set_option maxHeartbeats 16000000
set_option maxRecDepth 100000
namespace Go.Proofs.Ytaofkaehhikfaaa
open Go.RowKit
def MeantAt (l : List Int) (k : Nat) (v1 v6 v7 : Value) : Prop :=
 ∃ (m j : Nat) (n : Int), m <= 6 /\ v7 = .int .i64 m /\ v1 = .int .i64 j /\ v6 = .int .i64 n /\ j <= k + 1 + m /\ k + 1 + m <= j /\ 0 <= n /\ n <= 16777215 /\ Hid (Tk.hexR (6 - m) l j n = Tk.hexR 6 l (k + 1) 0) /\ Hid (n < 16 ^ m)
theorem tmeant_any (l : List Int) (k : Nat) (b off cap : Nat) (w : World) (hm : l.length <= 65536) (hk : k + 1 < l.length) (hp : On w l b off) :
 Calls Try.prog 105 #[.slice (some ⟨b, off, none⟩) l.length cap, .int .i64 k] w fun e w' => e = .returned (.tuple #[.int .i64 (Tk.meant l k).1, .int .i64 ((Tk.meant l k).2 : Nat)]) /\ w = w' := by
 have CT := at_is l b off cap w hm hp
 have hcell := hp (k + 1) hk
 clear hp
 go_enter Try.func105, Try.ntmps105
 go_wp2_with fail
 go_loop [1, 6, 7] (fun v1 v6 v7 => MeantAt l k v1 v6 v7) (fun _ _ v7 => 6 - (RowKit.intOf v7).toNat)
 case atStart => exact ⟨0, k + 1, 0, by omega, rfl, by go_num, rfl, by omega, by omega, by omega, by omega, Lib.hid rfl, Lib.hid (by decide)⟩
 case round =>
  obtain ⟨m, j, n, m1, rfl, rfl, rfl, j1, j2, n1, n2, HR, HN⟩ := hrel
  have C0 := Lib.hid (CT.out _ j rfl)
  by_cases hlt : m < 6
  ·by_cases hh : 0 <= Ru.hexV (Tk.at' l j)
   ·have hle := (Tk.hexV_le (Tk.at' l j)).2
    have HX : Hid (Tk.hexR (6 - (m + 1)) l (j + 1) (n * 16 + Ru.hexV (Tk.at' l j)) = Tk.hexR 6 l (k + 1) 0) := Lib.hid (by
     have := Tk.hexR_yes (f := 6 - (m + 1)) (n := n) hh
     rw [<- HR.out, show 6 - m = 6 - (m + 1) + 1 by omega, this])
    have hp5 := Tk.pow16 (m := m) (by omega)
    have hn3 : n <= 1048575 := by have := HN.out; omega
    have HN' : Hid (n * 16 + Ru.hexV (Tk.at' l j) < 16 ^ (m + 1)) := Lib.hid (by have := HN.out; rw [Int.pow_succ]; omega)
    clear HN HR hp5 CT hcell
    generalize Tk.at' l j = a at *
    generalize hhx : Ru.hexV a = h at *
    go_wp2_with (first | (go_at_call 93; ((with_reducible refine (C0.out).mono ?_); rintro e w' ⟨rfl, rfl⟩)) | (go_at_call 111; ((with_reducible refine (rhex_any _ _).mono ?_); rintro e w' ⟨rfl, rfl⟩)) | (go_at_call 92; ((with_reducible refine (twhite_any _ _).mono ?_); rintro e w' ⟨rfl, rfl⟩)) | (go_at_call 112; ((with_reducible refine (ris_any _ _).mono ?_); rintro e w' ⟨rfl, rfl⟩)))
    go_round
    case rel => exact ⟨m + 1, j + 1, n * 16 + h, by omega, by go_num, by go_num, rfl, by omega, by omega, by omega, by omega, HX, HN'⟩
    case measure => simp [RowKit.intOf]; omega
   ·have HE : Hid (Tk.hexR 6 l (k + 1) 0 = (n, j)) := Lib.hid (by rw [<- HR.out, Tk.hexR_no hh])
    clear HR HN
    have hh' : Ru.hexV (Tk.at' l j) < 0 := by omega
    clear hh
    by_cases m0 : m = 0
    ·subst m0
     have ej : j = k + 1 := by omega
     have HM := Lib.hid (Tk.meant_none (l := l) (k := k) (n := n) (by rw [HE.out, ej]))
     rw [<- ej] at hcell HM
     clear CT HE ej
     generalize Tk.at' l j = a at *
     generalize Ru.g l j = y at *
     go_wp2_with (first | (go_at_call 93; ((with_reducible refine (C0.out).mono ?_); rintro e w' ⟨rfl, rfl⟩)) | (go_at_call 111; ((with_reducible refine (rhex_any _ _).mono ?_); rintro e w' ⟨rfl, rfl⟩)) | (go_at_call 92; ((with_reducible refine (twhite_any _ _).mono ?_); rintro e w' ⟨rfl, rfl⟩)) | (go_at_call 112; ((with_reducible refine (ris_any _ _).mono ?_); rintro e w' ⟨rfl, rfl⟩)))
     go_ret2
     exact ⟨ret_two (by rw [HM.out]) (by first | (rw [HM.out]; done) | (rw [HM.out]; omega)), rfl⟩
    ·have HM := Lib.hid (Tk.meant_some HE.out (by omega))
     have em : ((m : Int) == 0) = false := Ru.eq_f (by omega)
     have HK : Hid (Tk.meantK l j = if Ru.whiB (Tk.at' l j) = true then j + 1 else j) := Lib.hid rfl
     clear CT HE hcell
     generalize Tk.at' l j = a at *
     by_cases n0 : n = 0
     ·subst n0
      cases hw : Ru.whiB a
      all_goals
       rw [hw] at HK
       go_wp2_with (first | (go_at_call 93; ((with_reducible refine (C0.out).mono ?_); rintro e w' ⟨rfl, rfl⟩)) | (go_at_call 111; ((with_reducible refine (rhex_any _ _).mono ?_); rintro e w' ⟨rfl, rfl⟩)) | (go_at_call 92; ((with_reducible refine (twhite_any _ _).mono ?_); rintro e w' ⟨rfl, rfl⟩)) | (go_at_call 112; ((with_reducible refine (ris_any _ _).mono ?_); rintro e w' ⟨rfl, rfl⟩)))
       go_ret2
       exact ⟨ret_two (by rw [HM.out]; rfl) (by rw [HM.out, HK.out]; simp), rfl⟩
     ·have en : ((n : Int) == 0) = false := Ru.eq_f n0
      cases hi : Ru.isB n
      ·have HV : Hid (Tk.meantN n = 65533) := Lib.hid (by unfold Tk.meantN; rw [if_pos (Or.inr hi)])
       cases hw : Ru.whiB a
       all_goals
        rw [hw] at HK
        go_wp2_with (first | (go_at_call 93; ((with_reducible refine (C0.out).mono ?_); rintro e w' ⟨rfl, rfl⟩)) | (go_at_call 111; ((with_reducible refine (rhex_any _ _).mono ?_); rintro e w' ⟨rfl, rfl⟩)) | (go_at_call 92; ((with_reducible refine (twhite_any _ _).mono ?_); rintro e w' ⟨rfl, rfl⟩)) | (go_at_call 112; ((with_reducible refine (ris_any _ _).mono ?_); rintro e w' ⟨rfl, rfl⟩)))
        go_ret2
        exact ⟨ret_two (by rw [HM.out, HV.out]) (by rw [HM.out, HK.out]; simp), rfl⟩
      ·have HV : Hid (Tk.meantN n = n) := Lib.hid (by unfold Tk.meantN; rw [if_neg (by rw [hi]; simp [n0])])
       cases hw : Ru.whiB a
       all_goals
        rw [hw] at HK
        go_wp2_with (first | (go_at_call 93; ((with_reducible refine (C0.out).mono ?_); rintro e w' ⟨rfl, rfl⟩)) | (go_at_call 111; ((with_reducible refine (rhex_any _ _).mono ?_); rintro e w' ⟨rfl, rfl⟩)) | (go_at_call 92; ((with_reducible refine (twhite_any _ _).mono ?_); rintro e w' ⟨rfl, rfl⟩)) | (go_at_call 112; ((with_reducible refine (ris_any _ _).mono ?_); rintro e w' ⟨rfl, rfl⟩)))
        go_ret2
        exact ⟨ret_two (by rw [HM.out, HV.out]) (by rw [HM.out, HK.out]; simp), rfl⟩
  ·have HE : Hid (Tk.hexR 6 l (k + 1) 0 = (n, j)) := Lib.hid (by rw [<- HR.out, show 6 - m = 0 by omega]; rfl)
   clear HR HN
   by_cases m0 : m = 0
   ·exact absurd (show m < 6 by omega) hlt
   ·have HM := Lib.hid (Tk.meant_some HE.out (by omega))
    have em : ((m : Int) == 0) = false := Ru.eq_f (by omega)
    have HK : Hid (Tk.meantK l j = if Ru.whiB (Tk.at' l j) = true then j + 1 else j) := Lib.hid rfl
    clear CT HE hcell
    generalize Tk.at' l j = a at *
    by_cases n0 : n = 0
    ·subst n0
     cases hw : Ru.whiB a
     all_goals
      rw [hw] at HK
      go_wp2_with (first | (go_at_call 93; ((with_reducible refine (C0.out).mono ?_); rintro e w' ⟨rfl, rfl⟩)) | (go_at_call 111; ((with_reducible refine (rhex_any _ _).mono ?_); rintro e w' ⟨rfl, rfl⟩)) | (go_at_call 92; ((with_reducible refine (twhite_any _ _).mono ?_); rintro e w' ⟨rfl, rfl⟩)) | (go_at_call 112; ((with_reducible refine (ris_any _ _).mono ?_); rintro e w' ⟨rfl, rfl⟩)))
      go_ret2
      exact ⟨ret_two (by rw [HM.out]; rfl) (by rw [HM.out, HK.out]; simp), rfl⟩
    ·have en : ((n : Int) == 0) = false := Ru.eq_f n0
     cases hi : Ru.isB n
     ·have HV : Hid (Tk.meantN n = 65533) := Lib.hid (by unfold Tk.meantN; rw [if_pos (Or.inr hi)])
      cases hw : Ru.whiB a
      all_goals
       rw [hw] at HK
       go_wp2_with (first | (go_at_call 93; ((with_reducible refine (C0.out).mono ?_); rintro e w' ⟨rfl, rfl⟩)) | (go_at_call 111; ((with_reducible refine (rhex_any _ _).mono ?_); rintro e w' ⟨rfl, rfl⟩)) | (go_at_call 92; ((with_reducible refine (twhite_any _ _).mono ?_); rintro e w' ⟨rfl, rfl⟩)) | (go_at_call 112; ((with_reducible refine (ris_any _ _).mono ?_); rintro e w' ⟨rfl, rfl⟩)))
       go_ret2
       exact ⟨ret_two (by rw [HM.out, HV.out]) (by rw [HM.out, HK.out]; simp), rfl⟩
     ·have HV : Hid (Tk.meantN n = n) := Lib.hid (by unfold Tk.meantN; rw [if_neg (by rw [hi]; simp [n0])])
      cases hw : Ru.whiB a
      all_goals
       rw [hw] at HK
       go_wp2_with (first | (go_at_call 93; ((with_reducible refine (C0.out).mono ?_); rintro e w' ⟨rfl, rfl⟩)) | (go_at_call 111; ((with_reducible refine (rhex_any _ _).mono ?_); rintro e w' ⟨rfl, rfl⟩)) | (go_at_call 92; ((with_reducible refine (twhite_any _ _).mono ?_); rintro e w' ⟨rfl, rfl⟩)) | (go_at_call 112; ((with_reducible refine (ris_any _ _).mono ?_); rintro e w' ⟨rfl, rfl⟩)))
       go_ret2
       exact ⟨ret_two (by rw [HM.out, HV.out]) (by rw [HM.out, HK.out]; simp), rfl⟩
end Go.Proofs.Ytaofkaehhikfaaa
namespace Go.Proofs.Ytaofkaehhikfaaa
namespace Ru
def cls (L a : Int) : Prop := (L = 2 /\ 192 <= a /\ a < 224) ∨ (L = 3 /\ 224 <= a /\ a < 240) ∨ (L = 4 /\ 240 <= a /\ a < 248)
def base (a : Int) : Int := if a < 224 then a - 192 else if a < 240 then a - 224 else a - 240
def spLo (k : Nat) (l : List Int) (x : Int) : Nat -> Int
 | 0 => x
 | j + 1 => if j + 1 < k then spLo k l x j * 64 + g l (j + 1) - 128 else spLo k l x j * 64
def spHi (k : Nat) (l : List Int) (x : Int) : Nat -> Int
 | 0 => x
 | j + 1 => if j + 1 < k then spHi k l x j * 64 + g l (j + 1) - 128 else spHi k l x j * 64 + 63
def okC (k : Nat) (l : List Int) (i : Nat) : Prop := ∀ j, 1 <= j -> j <= i -> j < k -> 128 <= g l j /\ g l j <= 191
def least (L : Int) : Int := if L = 4 then 65536 else if L = 3 then 2048 else 128
def mx (a b : Int) : Int := if a <= b then b else a
def roomLo (L lo : Int) : Int := if 55296 <= mx lo (least L) /\ mx lo (least L) <= 57343 then 57344 else mx lo (least L)
def room (L lo hi : Int) : Prop := roomLo L lo <= hi /\ roomLo L lo <= 1114111
theorem room_two (lo hi : Int) : room 2 lo hi ↔ (128 <= hi /\ lo <= hi /\ lo <= 1114111 /\ (lo < 55296 ∨ 57343 < lo ∨ 57344 <= hi)) := by
 unfold room roomLo mx least
 simp only [Int.reduceEq, if_false]
 repeat' split
 all_goals omega
theorem room_three (lo hi : Int) : room 3 lo hi ↔ (2048 <= hi /\ lo <= hi /\ lo <= 1114111 /\ (lo < 55296 ∨ 57343 < lo ∨ 57344 <= hi)) := by
 unfold room roomLo mx least
 simp only [Int.reduceEq, if_false, if_true]
 repeat' split
 all_goals omega
theorem room_four (lo hi : Int) : room 4 lo hi ↔ (65536 <= hi /\ lo <= hi /\ lo <= 1114111) := by
 unfold room roomLo mx least
 simp only [if_true]
 repeat' split
 all_goals omega
theorem okC_zero (k : Nat) (l : List Int) : okC k l 0 := fun j h1 h2 => by omega
theorem okC_next {k : Nat} {l : List Int} {i : Nat} (h : okC k l i) (h' : i + 1 < k -> 128 <= g l (i + 1) /\ g l (i + 1) <= 191) : okC k l (i + 1) := fun j h1 h2 h3 => by
 by_cases e : j = i + 1
 ·subst e; exact h' h3
 ·exact h j h1 (by omega) h3
theorem okC_three (k : Nat) (l : List Int) (i : Nat) (hi : i <= 3) : okC k l i ↔ ((i < 1 ∨ k <= 1 ∨ (128 <= g l 1 /\ g l 1 <= 191)) /\ (i < 2 ∨ k <= 2 ∨ (128 <= g l 2 /\ g l 2 <= 191)) /\ (i < 3 ∨ k <= 3 ∨ (128 <= g l 3 /\ g l 3 <= 191))) := by
 constructor
 ·intro h
  have h1 := h 1
  have h2 := h 2
  have h3 := h 3
  omega
 ·rintro ⟨h1, h2, h3⟩ j j1 j2 j3
  rcases (show j = 1 ∨ j = 2 ∨ j = 3 by omega) with rfl | rfl | rfl
  ·omega
  ·omega
  ·omega
theorem sp_bounds {k : Nat} {l : List Int} {x : Int} (h0 : 0 <= x) (h1 : x <= 31) : ∀ i, i <= 3 -> okC k l i -> 0 <= spLo k l x i /\ spLo k l x i <= spHi k l x i /\ spHi k l x i <= 32 * 64 ^ i - 1
 | 0, _, _ => by unfold spLo spHi; omega
 | i + 1, hi, h => by
   have ih := sp_bounds h0 h1 i (by omega) (fun j a b c => h j a (by omega) c)
   unfold spLo spHi
   have hp : (64 : Int) ^ (i + 1) = 64 ^ i * 64 := by rw [Int.pow_succ]
   rw [hp]
   by_cases hk : i + 1 < k
   ·have := h (i + 1) (by omega) (by omega) hk
    rw [if_pos hk, if_pos hk]
    omega
   ·rw [if_neg hk, if_neg hk]
    omega
theorem pow_three {i : Nat} (hi : i <= 3) : (64 : Int) ^ i <= 262144 := by
 rcases (show i = 0 ∨ i = 1 ∨ i = 2 ∨ i = 3 by omega) with rfl | rfl | rfl | rfl <;> decide
theorem mm_one {n a b c d : Int} (h : need a ≠ 0) : 1 <= mm n a b c d := by
 unfold mm
 repeat' split
 all_goals omega
theorem mm_two {n a b c d : Int} (h : need a ≠ 0) (hn : 1 < n) : 2 <= mm n a b c d ↔ lo2 a <= b /\ b <= hi2 a := by
 unfold mm
 repeat' split
 all_goals omega
theorem mm_three {n a b c d : Int} (h : need a = 3 ∨ need a = 4) (hn : 2 < n) : 3 <= mm n a b c d ↔ (lo2 a <= b /\ b <= hi2 a) /\ 128 <= c /\ c <= 191 := by
 unfold mm
 repeat' split
 all_goals omega
theorem mm_four {n a b c d : Int} (h : need a = 4) (hn : 3 < n) : 4 <= mm n a b c d ↔ (lo2 a <= b /\ b <= hi2 a) /\ (128 <= c /\ c <= 191) /\ 128 <= d /\ d <= 191 := by
 unfold mm
 repeat' split
 all_goals omega
theorem sp_two (k : Nat) (l : List Int) (x : Int) : spLo k l x 1 = (if 1 < k then x * 64 + g l 1 - 128 else x * 64) /\ spHi k l x 1 = (if 1 < k then x * 64 + g l 1 - 128 else x * 64 + 63) := ⟨rfl, rfl⟩
theorem sp_three (k : Nat) (l : List Int) (x : Int) : spLo k l x 2 = (if 2 < k then spLo k l x 1 * 64 + g l 2 - 128 else spLo k l x 1 * 64) /\ spHi k l x 2 = (if 2 < k then spHi k l x 1 * 64 + g l 2 - 128 else spHi k l x 1 * 64 + 63) := ⟨rfl, rfl⟩
theorem sp_four (k : Nat) (l : List Int) (x : Int) : spLo k l x 3 = (if 3 < k then spLo k l x 2 * 64 + g l 3 - 128 else spLo k l x 2 * 64) /\ spHi k l x 3 = (if 3 < k then spHi k l x 2 * 64 + g l 3 - 128 else spHi k l x 2 * 64 + 63) := ⟨rfl, rfl⟩
theorem bg_two (n k : Nat) (l : List Int) (h1 : 1 <= k) (h2 : k <= 2) (hn : k <= n) :
 (cls 2 (g l 0) /\ okC k l 1 /\ room 2 (spLo k l (base (g l 0)) 1) (spHi k l (base (g l 0)) 1)) ↔ (2 = need (g l 0) /\ (k : Int) <= mm n (g l 0) (g l 1) (g l 2) (g l 3)) := by
 rw [okC_three k l 1 (by omega), room_two]
 obtain ⟨s1, s2⟩ := sp_two k l (base (g l 0))
 by_cases hr : 192 <= g l 0 /\ g l 0 < 224
 ·have hx : base (g l 0) = g l 0 - 192 := by unfold base; omega
  have e1 : cls 2 (g l 0) := by unfold cls; omega
  rw [s1, s2, hx]
  clear hx s1 s2
  generalize g l 0 = a at *
  generalize g l 1 = b at *
  generalize g l 2 = c at *
  generalize g l 3 = d at *
  by_cases hc : 194 <= a
  ·have e0 : need a = 2 := by unfold need; omega
   have e2 : lo2 a = 128 := by unfold lo2; omega
   have e3 : hi2 a = 191 := by unfold hi2; omega
   rcases (show k = 1 ∨ k = 2 by omega) with rfl | rfl
   ·have hm := mm_one (n := n) (b := b) (c := c) (d := d) (show need a ≠ 0 by omega)
    simp only [e1, true_and, false_or, if_false, Nat.lt_irrefl]
    omega
   ·have hm := mm_two (n := n) (b := b) (c := c) (d := d) (show need a ≠ 0 by omega) (by omega)
    simp only [e1, true_and, false_or, Nat.reduceLT, if_true]
    omega
  ·have e0 : need a = 0 := by unfold need; omega
   rcases (show k = 1 ∨ k = 2 by omega) with rfl | rfl
   ·simp only [e1, true_and, false_or, if_false, Nat.lt_irrefl]
    omega
   ·simp only [e1, true_and, false_or, Nat.reduceLT, if_true]
    omega
 ·constructor
  ·rintro ⟨c1, -, -⟩
   unfold cls at c1
   omega
  ·rintro ⟨c1, -⟩
   unfold need at c1
   omega
theorem bg_three (n k : Nat) (l : List Int) (h1 : 1 <= k) (h2 : k <= 3) (hn : k <= n) :
 (cls 3 (g l 0) /\ okC k l 2 /\ room 3 (spLo k l (base (g l 0)) 2) (spHi k l (base (g l 0)) 2)) ↔ (3 = need (g l 0) /\ (k : Int) <= mm n (g l 0) (g l 1) (g l 2) (g l 3)) := by
 rw [okC_three k l 2 (by omega), room_three]
 obtain ⟨s1, s2⟩ := sp_two k l (base (g l 0))
 obtain ⟨s3, s4⟩ := sp_three k l (base (g l 0))
 by_cases hr : 224 <= g l 0 /\ g l 0 < 240
 ·have hx : base (g l 0) = g l 0 - 224 := by unfold base; omega
  have e1 : cls 3 (g l 0) := by unfold cls; omega
  rw [s3, s4, s1, s2, hx]
  clear hx s1 s2 s3 s4
  generalize g l 0 = a at *
  generalize g l 1 = b at *
  generalize g l 2 = c at *
  generalize g l 3 = d at *
  have e0 : need a = 3 := by unfold need; omega
  have e2 : (a = 224 /\ lo2 a = 160) ∨ (a ≠ 224 /\ lo2 a = 128) := by unfold lo2; omega
  have e3 : (a = 237 /\ hi2 a = 159) ∨ (a ≠ 237 /\ hi2 a = 191) := by unfold hi2; omega
  rcases (show k = 1 ∨ k = 2 ∨ k = 3 by omega) with rfl | rfl | rfl
  ·have hm := mm_one (n := n) (b := b) (c := c) (d := d) (show need a ≠ 0 by omega)
   simp only [e1, true_and, false_or, if_false, Nat.lt_irrefl, Nat.reduceLT]
   omega
  ·have hm := mm_two (n := n) (b := b) (c := c) (d := d) (show need a ≠ 0 by omega) (by omega)
   simp only [e1, true_and, false_or, Nat.reduceLT, if_true, if_false, Nat.lt_irrefl]
   omega
  ·have hm := mm_three (n := n) (b := b) (c := c) (d := d) (Or.inl e0) (by omega)
   simp only [e1, true_and, false_or, Nat.reduceLT, if_true]
   omega
 ·constructor
  ·rintro ⟨c1, -, -⟩
   unfold cls at c1
   omega
  ·rintro ⟨c1, -⟩
   unfold need at c1
   omega
theorem bg_four (n k : Nat) (l : List Int) (h1 : 1 <= k) (h2 : k <= 4) (hn : k <= n) :
 (cls 4 (g l 0) /\ okC k l 3 /\ room 4 (spLo k l (base (g l 0)) 3) (spHi k l (base (g l 0)) 3)) ↔ (4 = need (g l 0) /\ (k : Int) <= mm n (g l 0) (g l 1) (g l 2) (g l 3)) := by
 rw [okC_three k l 3 (by omega), room_four]
 obtain ⟨s1, s2⟩ := sp_two k l (base (g l 0))
 obtain ⟨s3, s4⟩ := sp_three k l (base (g l 0))
 obtain ⟨s5, s6⟩ := sp_four k l (base (g l 0))
 by_cases hr : 240 <= g l 0 /\ g l 0 < 248
 ·have hx : base (g l 0) = g l 0 - 240 := by unfold base; omega
  have e1 : cls 4 (g l 0) := by unfold cls; omega
  rw [s5, s6, s3, s4, s1, s2, hx]
  clear hx s1 s2 s3 s4 s5 s6
  generalize g l 0 = a at *
  generalize g l 1 = b at *
  generalize g l 2 = c at *
  generalize g l 3 = d at *
  by_cases hc : a < 245
  ·have e0 : need a = 4 := by unfold need; omega
   have e2 : (a = 240 /\ lo2 a = 144) ∨ (a ≠ 240 /\ lo2 a = 128) := by unfold lo2; omega
   have e3 : (a = 244 /\ hi2 a = 143) ∨ (a ≠ 244 /\ hi2 a = 191) := by unfold hi2; omega
   rcases (show k = 1 ∨ k = 2 ∨ k = 3 ∨ k = 4 by omega) with rfl | rfl | rfl | rfl
   ·have hm := mm_one (n := n) (b := b) (c := c) (d := d) (show need a ≠ 0 by omega)
    simp only [e1, true_and, false_or, if_false, Nat.lt_irrefl, Nat.reduceLT]
    omega
   ·have hm := mm_two (n := n) (b := b) (c := c) (d := d) (show need a ≠ 0 by omega) (by omega)
    simp only [e1, true_and, false_or, Nat.reduceLT, if_true, if_false, Nat.lt_irrefl]
    omega
   ·have hm := mm_three (n := n) (b := b) (c := c) (d := d) (Or.inr e0) (by omega)
    simp only [e1, true_and, false_or, Nat.reduceLT, if_true, if_false, Nat.lt_irrefl]
    omega
   ·have hm := mm_four (n := n) (b := b) (c := c) (d := d) e0 (by omega)
    simp only [e1, true_and, false_or, Nat.reduceLT, if_true]
    omega
  ·have e0 : need a = 0 := by unfold need; omega
   rcases (show k = 1 ∨ k = 2 ∨ k = 3 ∨ k = 4 by omega) with rfl | rfl | rfl | rfl
   all_goals
    simp only [e1, true_and, false_or, if_false, if_true, Nat.lt_irrefl, Nat.reduceLT]
    omega
 ·constructor
  ·rintro ⟨c1, -, -⟩
   unfold cls at c1
   omega
  ·rintro ⟨c1, -⟩
   unfold need at c1
   omega
end Ru
end Go.Proofs.Ytaofkaehhikfaaa
namespace Go.Proofs.Ytaofkaehhikfaaa
open Go.RowKit
def Spanned (k L : Nat) (l : List Int) (w : World) (e : Ending) (w' : World) : Prop :=
 (Ru.cls L (Ru.g l 0) /\ Ru.okC k l (L - 1) -> e = .returned (.tuple #[.int .i64 (Ru.spLo k l (Ru.base (Ru.g l 0)) (L - 1)), .int .i64 (Ru.spHi k l (Ru.base (Ru.g l 0)) (L - 1))])) /\
 (¬ (Ru.cls L (Ru.g l 0) /\ Ru.okC k l (L - 1)) -> e = .returned (.tuple #[.int .i64 (-1), .int .i64 (-1)])) /\ w = w'
def SpanAt (k L : Nat) (l : List Int) (v7 v8 v9 : Value) : Prop :=
 ∃ j : Nat, j + 1 <= L /\ v9 = .int .i64 ((j + 1 : Nat) : Int) /\ v7 = .int .i64 (Ru.spLo k l (Ru.base (Ru.g l 0)) j) /\ v8 = .int .i64 (Ru.spHi k l (Ru.base (Ru.g l 0)) j) /\ Hid (Ru.okC k l j)
theorem span_loop (k L : Nat) (l : List Int) (hL : 2 <= L /\ L <= 4) (hc : Ru.cls L (Ru.g l 0)) (j : Nat) (hj : j + 1 <= L) (ho : Ru.okC k l j) :
 0 <= Ru.spLo k l (Ru.base (Ru.g l 0)) j /\ Ru.spLo k l (Ru.base (Ru.g l 0)) j <= Ru.spHi k l (Ru.base (Ru.g l 0)) j /\ Ru.spHi k l (Ru.base (Ru.g l 0)) j <= 8388607 := by
 have hb : 0 <= Ru.base (Ru.g l 0) /\ Ru.base (Ru.g l 0) <= 31 := by unfold Ru.cls at hc; unfold Ru.base; omega
 have h1 := Ru.sp_bounds (k := k) (l := l) hb.1 hb.2 j (by omega) ho
 have h2 := Ru.pow_three (i := j) (by omega)
 omega
theorem span_yes {k : Nat} {l : List Int} {x : Int} {j : Nat} (h : j + 1 < k) : Ru.spLo k l x (j + 1) = Ru.spLo k l x j * 64 + Ru.g l (j + 1) - 128 /\ Ru.spHi k l x (j + 1) = Ru.spHi k l x j * 64 + Ru.g l (j + 1) - 128 := by
 rw [Ru.spLo, Ru.spHi, if_pos h, if_pos h]; exact ⟨rfl, rfl⟩
theorem span_not {k : Nat} {l : List Int} {x : Int} {j : Nat} (h : ¬ j + 1 < k) : Ru.spLo k l x (j + 1) = Ru.spLo k l x j * 64 /\ Ru.spHi k l x (j + 1) = Ru.spHi k l x j * 64 + 63 := by
 rw [Ru.spLo, Ru.spHi, if_neg h, if_neg h]; exact ⟨rfl, rfl⟩
theorem span_two (k : Nat) (l : List Int) (b off cap : Nat) (w : World) (h1 : 1 <= k) (hl : Ru.By l) (hm : k <= 9223372036854775807) (hp : ∀ j, j < k -> w.cell? ⟨b, off + j, none⟩ = some (.int .u8 (Ru.g l j))) :
 Calls Try.prog 104 #[.slice (some ⟨b, off, none⟩) k cap, .int .i64 2] w (Spanned k 2 l w) := by
 have h0 := hp 0 (by omega)
 rw [Nat.add_zero] at h0
 have y0 := hl.at_ 0
 by_cases c1 : 192 <= Ru.g l 0
 ·by_cases c2 : Ru.g l 0 < 224
  ·have hc : Ru.cls 2 (Ru.g l 0) := by unfold Ru.cls; omega
   have hx : Ru.base (Ru.g l 0) = Ru.g l 0 - 192 := by unfold Ru.base; omega
   have HX := Lib.hid hx
   have HC := Lib.hid hc
   have HP := Lib.hid hp
   have HL := Lib.hid hl
   clear hx hc hp hl
   go_enter Try.func104, Try.ntmps104
   go_wp2_with fail
   go_loop [7, 8, 9] (fun v7 v8 v9 => SpanAt k 2 l v7 v8 v9) (fun _ _ v9 => 2 - (RowKit.intOf v9).toNat)
   case atStart => exact ⟨0, by omega, rfl, by rw [Ru.spLo, HX.out], by rw [Ru.spHi, HX.out], Lib.hid (Ru.okC_zero _ _)⟩
   case round =>
    obtain ⟨j, hj, rfl, rfl, rfl, ho⟩ := hrel
    have hbd := span_loop k 2 l (by omega) HC.out j (by omega) ho.out
    obtain ⟨q1, q2, q3⟩ := hbd
    by_cases hlt : j + 1 < 2
    ·by_cases hk : j + 1 < k
     ·have hcell := HP.out (j + 1) hk
      have hy := HL.out.at_ (j + 1)
      obtain ⟨p1, p2⟩ := hy
      have HN := Lib.hid (span_yes (l := l) (x := Ru.base (Ru.g l 0)) hk)
      generalize Ru.spLo k l (Ru.base (Ru.g l 0)) j = lo at *
      generalize Ru.spHi k l (Ru.base (Ru.g l 0)) j = hi at *
      clear HP HL HC HX
      by_cases d1 : Ru.g l (j + 1) < 128
      ·go_wp2_with fail
       go_ret2
       exact ⟨fun h => absurd (h.2 (j + 1) (by omega) (by omega) hk) (by omega), fun _ => rfl, rfl⟩
      ·by_cases d2 : 191 < Ru.g l (j + 1)
       ·go_wp2_with fail
        go_ret2
        exact ⟨fun h => absurd (h.2 (j + 1) (by omega) (by omega) hk) (by omega), fun _ => rfl, rfl⟩
       ·go_wp2_with fail
        go_round
        case rel => exact ⟨j + 1, by omega, by go_num, congrArg (Value.int .i64) (by rw [HN.out.1]), congrArg (Value.int .i64) (by rw [HN.out.2]), Lib.hid (Ru.okC_next ho.out fun _ => by omega)⟩
        case measure => simp [RowKit.intOf]; omega
     ·have HN := Lib.hid (span_not (l := l) (x := Ru.base (Ru.g l 0)) hk)
      generalize Ru.spLo k l (Ru.base (Ru.g l 0)) j = lo at *
      generalize Ru.spHi k l (Ru.base (Ru.g l 0)) j = hi at *
      clear HP HL HC HX
      go_wp2_with fail
      go_round
      case rel => exact ⟨j + 1, by omega, by go_num, congrArg (Value.int .i64) (by rw [HN.out.1]), congrArg (Value.int .i64) (by rw [HN.out.2]), Lib.hid (Ru.okC_next ho.out fun h => absurd h hk)⟩
      case measure => simp [RowKit.intOf]; omega
    ·obtain rfl : j = 2 - 1 := by omega
     clear HP HL HX
     go_wp2_with fail
     go_ret2
     exact ⟨fun _ => rfl, fun h => absurd ⟨HC.out, ho.out⟩ h, rfl⟩
  ·go_enter Try.func104, Try.ntmps104
   go_wp2_with fail
   go_ret2
   exact ⟨fun h => absurd h.1 (by unfold Ru.cls; omega), fun _ => rfl, rfl⟩
 ·go_enter Try.func104, Try.ntmps104
  go_wp2_with fail
  go_ret2
  exact ⟨fun h => absurd h.1 (by unfold Ru.cls; omega), fun _ => rfl, rfl⟩
theorem span_three (k : Nat) (l : List Int) (b off cap : Nat) (w : World) (h1 : 1 <= k) (hl : Ru.By l) (hm : k <= 9223372036854775807) (hp : ∀ j, j < k -> w.cell? ⟨b, off + j, none⟩ = some (.int .u8 (Ru.g l j))) :
 Calls Try.prog 104 #[.slice (some ⟨b, off, none⟩) k cap, .int .i64 3] w (Spanned k 3 l w) := by
 have h0 := hp 0 (by omega)
 rw [Nat.add_zero] at h0
 have y0 := hl.at_ 0
 by_cases c1 : 224 <= Ru.g l 0
 ·by_cases c2 : Ru.g l 0 < 240
  ·have hc : Ru.cls 3 (Ru.g l 0) := by unfold Ru.cls; omega
   have hx : Ru.base (Ru.g l 0) = Ru.g l 0 - 224 := by unfold Ru.base; omega
   have HX := Lib.hid hx
   have HC := Lib.hid hc
   have HP := Lib.hid hp
   have HL := Lib.hid hl
   clear hx hc hp hl
   go_enter Try.func104, Try.ntmps104
   go_wp2_with fail
   go_loop [7, 8, 9] (fun v7 v8 v9 => SpanAt k 3 l v7 v8 v9) (fun _ _ v9 => 3 - (RowKit.intOf v9).toNat)
   case atStart => exact ⟨0, by omega, rfl, by rw [Ru.spLo, HX.out], by rw [Ru.spHi, HX.out], Lib.hid (Ru.okC_zero _ _)⟩
   case round =>
    obtain ⟨j, hj, rfl, rfl, rfl, ho⟩ := hrel
    have hbd := span_loop k 3 l (by omega) HC.out j (by omega) ho.out
    obtain ⟨q1, q2, q3⟩ := hbd
    by_cases hlt : j + 1 < 3
    ·by_cases hk : j + 1 < k
     ·have hcell := HP.out (j + 1) hk
      have hy := HL.out.at_ (j + 1)
      obtain ⟨p1, p2⟩ := hy
      have HN := Lib.hid (span_yes (l := l) (x := Ru.base (Ru.g l 0)) hk)
      generalize Ru.spLo k l (Ru.base (Ru.g l 0)) j = lo at *
      generalize Ru.spHi k l (Ru.base (Ru.g l 0)) j = hi at *
      clear HP HL HC HX
      by_cases d1 : Ru.g l (j + 1) < 128
      ·go_wp2_with fail
       go_ret2
       exact ⟨fun h => absurd (h.2 (j + 1) (by omega) (by omega) hk) (by omega), fun _ => rfl, rfl⟩
      ·by_cases d2 : 191 < Ru.g l (j + 1)
       ·go_wp2_with fail
        go_ret2
        exact ⟨fun h => absurd (h.2 (j + 1) (by omega) (by omega) hk) (by omega), fun _ => rfl, rfl⟩
       ·go_wp2_with fail
        go_round
        case rel => exact ⟨j + 1, by omega, by go_num, congrArg (Value.int .i64) (by rw [HN.out.1]), congrArg (Value.int .i64) (by rw [HN.out.2]), Lib.hid (Ru.okC_next ho.out fun _ => by omega)⟩
        case measure => simp [RowKit.intOf]; omega
     ·have HN := Lib.hid (span_not (l := l) (x := Ru.base (Ru.g l 0)) hk)
      generalize Ru.spLo k l (Ru.base (Ru.g l 0)) j = lo at *
      generalize Ru.spHi k l (Ru.base (Ru.g l 0)) j = hi at *
      clear HP HL HC HX
      go_wp2_with fail
      go_round
      case rel => exact ⟨j + 1, by omega, by go_num, congrArg (Value.int .i64) (by rw [HN.out.1]), congrArg (Value.int .i64) (by rw [HN.out.2]), Lib.hid (Ru.okC_next ho.out fun h => absurd h hk)⟩
      case measure => simp [RowKit.intOf]; omega
    ·obtain rfl : j = 3 - 1 := by omega
     clear HP HL HX
     go_wp2_with fail
     go_ret2
     exact ⟨fun _ => rfl, fun h => absurd ⟨HC.out, ho.out⟩ h, rfl⟩
  ·go_enter Try.func104, Try.ntmps104
   go_wp2_with fail
   go_ret2
   exact ⟨fun h => absurd h.1 (by unfold Ru.cls; omega), fun _ => rfl, rfl⟩
 ·go_enter Try.func104, Try.ntmps104
  go_wp2_with fail
  go_ret2
  exact ⟨fun h => absurd h.1 (by unfold Ru.cls; omega), fun _ => rfl, rfl⟩
theorem span_four (k : Nat) (l : List Int) (b off cap : Nat) (w : World) (h1 : 1 <= k) (hl : Ru.By l) (hm : k <= 9223372036854775807) (hp : ∀ j, j < k -> w.cell? ⟨b, off + j, none⟩ = some (.int .u8 (Ru.g l j))) :
 Calls Try.prog 104 #[.slice (some ⟨b, off, none⟩) k cap, .int .i64 4] w (Spanned k 4 l w) := by
 have h0 := hp 0 (by omega)
 rw [Nat.add_zero] at h0
 have y0 := hl.at_ 0
 by_cases c1 : 240 <= Ru.g l 0
 ·by_cases c2 : Ru.g l 0 < 248
  ·have hc : Ru.cls 4 (Ru.g l 0) := by unfold Ru.cls; omega
   have hx : Ru.base (Ru.g l 0) = Ru.g l 0 - 240 := by unfold Ru.base; omega
   have HX := Lib.hid hx
   have HC := Lib.hid hc
   have HP := Lib.hid hp
   have HL := Lib.hid hl
   clear hx hc hp hl
   go_enter Try.func104, Try.ntmps104
   go_wp2_with fail
   go_loop [7, 8, 9] (fun v7 v8 v9 => SpanAt k 4 l v7 v8 v9) (fun _ _ v9 => 4 - (RowKit.intOf v9).toNat)
   case atStart => exact ⟨0, by omega, rfl, by rw [Ru.spLo, HX.out], by rw [Ru.spHi, HX.out], Lib.hid (Ru.okC_zero _ _)⟩
   case round =>
    obtain ⟨j, hj, rfl, rfl, rfl, ho⟩ := hrel
    have hbd := span_loop k 4 l (by omega) HC.out j (by omega) ho.out
    obtain ⟨q1, q2, q3⟩ := hbd
    by_cases hlt : j + 1 < 4
    ·by_cases hk : j + 1 < k
     ·have hcell := HP.out (j + 1) hk
      have hy := HL.out.at_ (j + 1)
      obtain ⟨p1, p2⟩ := hy
      have HN := Lib.hid (span_yes (l := l) (x := Ru.base (Ru.g l 0)) hk)
      generalize Ru.spLo k l (Ru.base (Ru.g l 0)) j = lo at *
      generalize Ru.spHi k l (Ru.base (Ru.g l 0)) j = hi at *
      clear HP HL HC HX
      by_cases d1 : Ru.g l (j + 1) < 128
      ·go_wp2_with fail
       go_ret2
       exact ⟨fun h => absurd (h.2 (j + 1) (by omega) (by omega) hk) (by omega), fun _ => rfl, rfl⟩
      ·by_cases d2 : 191 < Ru.g l (j + 1)
       ·go_wp2_with fail
        go_ret2
        exact ⟨fun h => absurd (h.2 (j + 1) (by omega) (by omega) hk) (by omega), fun _ => rfl, rfl⟩
       ·go_wp2_with fail
        go_round
        case rel => exact ⟨j + 1, by omega, by go_num, congrArg (Value.int .i64) (by rw [HN.out.1]), congrArg (Value.int .i64) (by rw [HN.out.2]), Lib.hid (Ru.okC_next ho.out fun _ => by omega)⟩
        case measure => simp [RowKit.intOf]; omega
     ·have HN := Lib.hid (span_not (l := l) (x := Ru.base (Ru.g l 0)) hk)
      generalize Ru.spLo k l (Ru.base (Ru.g l 0)) j = lo at *
      generalize Ru.spHi k l (Ru.base (Ru.g l 0)) j = hi at *
      clear HP HL HC HX
      go_wp2_with fail
      go_round
      case rel => exact ⟨j + 1, by omega, by go_num, congrArg (Value.int .i64) (by rw [HN.out.1]), congrArg (Value.int .i64) (by rw [HN.out.2]), Lib.hid (Ru.okC_next ho.out fun h => absurd h hk)⟩
      case measure => simp [RowKit.intOf]; omega
    ·obtain rfl : j = 4 - 1 := by omega
     clear HP HL HX
     go_wp2_with fail
     go_ret2
     exact ⟨fun _ => rfl, fun h => absurd ⟨HC.out, ho.out⟩ h, rfl⟩
  ·go_enter Try.func104, Try.ntmps104
   go_wp2_with fail
   go_ret2
   exact ⟨fun h => absurd h.1 (by unfold Ru.cls; omega), fun _ => rfl, rfl⟩
 ·go_enter Try.func104, Try.ntmps104
  go_wp2_with fail
  go_ret2
  exact ⟨fun h => absurd h.1 (by unfold Ru.cls; omega), fun _ => rfl, rfl⟩
namespace Ru
def bgB (n k : Nat) (L : Int) (l : List Int) : Bool := decide (L = need (g l 0) /\ (k : Int) <= mm n (g l 0) (g l 1) (g l 2) (g l 3))
end Ru
theorem begins_two (n k : Nat) (l : List Int) (b off cap : Nat) (w : World) (h1 : 1 <= k) (hkL : k <= 2) (hkn : k <= n) (hl : Ru.By l) (hp : ∀ j, j < k -> w.cell? ⟨b, off + j, none⟩ = some (.int .u8 (Ru.g l j))) :
 Calls Try.prog 103 #[.slice (some ⟨b, off, none⟩) k cap, .int .i64 2] w fun e w' => e = .returned (.bool (Ru.bgB n k 2 l)) /\ w = w' := by
 have hiff := Ru.bg_two n k l h1 hkL hkn
 have C := Lib.hid (span_two k l b off cap w h1 hl (by omega) hp)
 clear hp
 by_cases hs : Ru.cls 2 (Ru.g l 0) /\ Ru.okC k l (2 - 1)
 ·have hb := span_loop k 2 l (by omega) hs.1 (2 - 1) (by omega) hs.2
  have C' : Hid (Calls Try.prog 104 #[.slice (some ⟨b, off, none⟩) k cap, .int .i64 2] w fun e w' => e = .returned (.tuple #[.int .i64 (Ru.spLo k l (Ru.base (Ru.g l 0)) (2 - 1)), .int .i64 (Ru.spHi k l (Ru.base (Ru.g l 0)) (2 - 1))]) /\ w = w') := Lib.hid (C.out.mono fun _ _ h => ⟨h.1 hs, h.2.2⟩)
  have hr : Ru.bgB n k 2 l = true ↔ Ru.room 2 (Ru.spLo k l (Ru.base (Ru.g l 0)) (2 - 1)) (Ru.spHi k l (Ru.base (Ru.g l 0)) (2 - 1)) := by
   unfold Ru.bgB
   rw [decide_eq_true_iff, <- hiff]
   exact ⟨fun h => h.2.2, fun h => ⟨hs.1, hs.2, h⟩⟩
  rw [Ru.room_two] at hr
  generalize Ru.spLo k l (Ru.base (Ru.g l 0)) (2 - 1) = lo at *
  generalize Ru.spHi k l (Ru.base (Ru.g l 0)) (2 - 1) = hi at *
  have HR := Lib.hid hr
  clear hr C hiff hs hl
  obtain ⟨q1, q2, q3⟩ := hb
  go_enter Try.func103, Try.ntmps103
  go_wp2_with (go_at_call 104; ((with_reducible refine (C'.out).mono ?_); rintro e w' ⟨rfl, rfl⟩))
  all_goals
   go_ret
   exact ⟨ret_bool (by rw [Bool.eq_iff_iff, HR.out]; simp only [decide_eq_true_iff]; first | omega | (simp only [true_iff]; omega) | (simp only [false_iff]; omega)), rfl⟩
 ·have C' : Hid (Calls Try.prog 104 #[.slice (some ⟨b, off, none⟩) k cap, .int .i64 2] w fun e w' => e = .returned (.tuple #[.int .i64 (-1), .int .i64 (-1)]) /\ w = w') := Lib.hid (C.out.mono fun _ _ h => ⟨h.2.1 hs, h.2.2⟩)
  have HR : Ru.bgB n k 2 l = false := decide_eq_false fun h => hs ⟨(hiff.2 h).1, (hiff.2 h).2.1⟩
  rw [HR]
  clear HR C hiff hs hl
  go_enter Try.func103, Try.ntmps103
  go_wp2_with (go_at_call 104; ((with_reducible refine (C'.out).mono ?_); rintro e w' ⟨rfl, rfl⟩))
  go_ret
  exact ⟨rfl, rfl⟩
theorem begins_three (n k : Nat) (l : List Int) (b off cap : Nat) (w : World) (h1 : 1 <= k) (hkL : k <= 3) (hkn : k <= n) (hl : Ru.By l) (hp : ∀ j, j < k -> w.cell? ⟨b, off + j, none⟩ = some (.int .u8 (Ru.g l j))) :
 Calls Try.prog 103 #[.slice (some ⟨b, off, none⟩) k cap, .int .i64 3] w fun e w' => e = .returned (.bool (Ru.bgB n k 3 l)) /\ w = w' := by
 have hiff := Ru.bg_three n k l h1 hkL hkn
 have C := Lib.hid (span_three k l b off cap w h1 hl (by omega) hp)
 clear hp
 by_cases hs : Ru.cls 3 (Ru.g l 0) /\ Ru.okC k l (3 - 1)
 ·have hb := span_loop k 3 l (by omega) hs.1 (3 - 1) (by omega) hs.2
  have C' : Hid (Calls Try.prog 104 #[.slice (some ⟨b, off, none⟩) k cap, .int .i64 3] w fun e w' => e = .returned (.tuple #[.int .i64 (Ru.spLo k l (Ru.base (Ru.g l 0)) (3 - 1)), .int .i64 (Ru.spHi k l (Ru.base (Ru.g l 0)) (3 - 1))]) /\ w = w') := Lib.hid (C.out.mono fun _ _ h => ⟨h.1 hs, h.2.2⟩)
  have hr : Ru.bgB n k 3 l = true ↔ Ru.room 3 (Ru.spLo k l (Ru.base (Ru.g l 0)) (3 - 1)) (Ru.spHi k l (Ru.base (Ru.g l 0)) (3 - 1)) := by
   unfold Ru.bgB
   rw [decide_eq_true_iff, <- hiff]
   exact ⟨fun h => h.2.2, fun h => ⟨hs.1, hs.2, h⟩⟩
  rw [Ru.room_three] at hr
  generalize Ru.spLo k l (Ru.base (Ru.g l 0)) (3 - 1) = lo at *
  generalize Ru.spHi k l (Ru.base (Ru.g l 0)) (3 - 1) = hi at *
  have HR := Lib.hid hr
  clear hr C hiff hs hl
  obtain ⟨q1, q2, q3⟩ := hb
  go_enter Try.func103, Try.ntmps103
  go_wp2_with (go_at_call 104; ((with_reducible refine (C'.out).mono ?_); rintro e w' ⟨rfl, rfl⟩))
  all_goals
   go_ret
   exact ⟨ret_bool (by rw [Bool.eq_iff_iff, HR.out]; simp only [decide_eq_true_iff]; first | omega | (simp only [true_iff]; omega) | (simp only [false_iff]; omega)), rfl⟩
 ·have C' : Hid (Calls Try.prog 104 #[.slice (some ⟨b, off, none⟩) k cap, .int .i64 3] w fun e w' => e = .returned (.tuple #[.int .i64 (-1), .int .i64 (-1)]) /\ w = w') := Lib.hid (C.out.mono fun _ _ h => ⟨h.2.1 hs, h.2.2⟩)
  have HR : Ru.bgB n k 3 l = false := decide_eq_false fun h => hs ⟨(hiff.2 h).1, (hiff.2 h).2.1⟩
  rw [HR]
  clear HR C hiff hs hl
  go_enter Try.func103, Try.ntmps103
  go_wp2_with (go_at_call 104; ((with_reducible refine (C'.out).mono ?_); rintro e w' ⟨rfl, rfl⟩))
  go_ret
  exact ⟨rfl, rfl⟩
theorem begins_four (n k : Nat) (l : List Int) (b off cap : Nat) (w : World) (h1 : 1 <= k) (hkL : k <= 4) (hkn : k <= n) (hl : Ru.By l) (hp : ∀ j, j < k -> w.cell? ⟨b, off + j, none⟩ = some (.int .u8 (Ru.g l j))) :
 Calls Try.prog 103 #[.slice (some ⟨b, off, none⟩) k cap, .int .i64 4] w fun e w' => e = .returned (.bool (Ru.bgB n k 4 l)) /\ w = w' := by
 have hiff := Ru.bg_four n k l h1 hkL hkn
 have C := Lib.hid (span_four k l b off cap w h1 hl (by omega) hp)
 clear hp
 by_cases hs : Ru.cls 4 (Ru.g l 0) /\ Ru.okC k l (4 - 1)
 ·have hb := span_loop k 4 l (by omega) hs.1 (4 - 1) (by omega) hs.2
  have C' : Hid (Calls Try.prog 104 #[.slice (some ⟨b, off, none⟩) k cap, .int .i64 4] w fun e w' => e = .returned (.tuple #[.int .i64 (Ru.spLo k l (Ru.base (Ru.g l 0)) (4 - 1)), .int .i64 (Ru.spHi k l (Ru.base (Ru.g l 0)) (4 - 1))]) /\ w = w') := Lib.hid (C.out.mono fun _ _ h => ⟨h.1 hs, h.2.2⟩)
  have hr : Ru.bgB n k 4 l = true ↔ Ru.room 4 (Ru.spLo k l (Ru.base (Ru.g l 0)) (4 - 1)) (Ru.spHi k l (Ru.base (Ru.g l 0)) (4 - 1)) := by
   unfold Ru.bgB
   rw [decide_eq_true_iff, <- hiff]
   exact ⟨fun h => h.2.2, fun h => ⟨hs.1, hs.2, h⟩⟩
  rw [Ru.room_four] at hr
  generalize Ru.spLo k l (Ru.base (Ru.g l 0)) (4 - 1) = lo at *
  generalize Ru.spHi k l (Ru.base (Ru.g l 0)) (4 - 1) = hi at *
  have HR := Lib.hid hr
  clear hr C hiff hs hl
  obtain ⟨q1, q2, q3⟩ := hb
  go_enter Try.func103, Try.ntmps103
  go_wp2_with (go_at_call 104; ((with_reducible refine (C'.out).mono ?_); rintro e w' ⟨rfl, rfl⟩))
  all_goals
   go_ret
   exact ⟨ret_bool (by rw [Bool.eq_iff_iff, HR.out]; simp only [decide_eq_true_iff]; first | omega | (simp only [true_iff]; omega) | (simp only [false_iff]; omega)), rfl⟩
 ·have C' : Hid (Calls Try.prog 104 #[.slice (some ⟨b, off, none⟩) k cap, .int .i64 4] w fun e w' => e = .returned (.tuple #[.int .i64 (-1), .int .i64 (-1)]) /\ w = w') := Lib.hid (C.out.mono fun _ _ h => ⟨h.2.1 hs, h.2.2⟩)
  have HR : Ru.bgB n k 4 l = false := decide_eq_false fun h => hs ⟨(hiff.2 h).1, (hiff.2 h).2.1⟩
  rw [HR]
  clear HR C hiff hs hl
  go_enter Try.func103, Try.ntmps103
  go_wp2_with (go_at_call 104; ((with_reducible refine (C'.out).mono ?_); rintro e w' ⟨rfl, rfl⟩))
  go_ret
  exact ⟨rfl, rfl⟩
namespace Ru
theorem val_sp (l : List Int) (L : Nat) (hL : (L : Int) = need (g l 0)) (h0 : L ≠ 0) (hc : cls L (g l 0)) (ho : okC L l (L - 1)) : spLo L l (base (g l 0)) (L - 1) = val (g l 0) (g l 1) (g l 2) (g l 3) := by
 have hcase := need_case (g l 0)
 obtain ⟨s1, -⟩ := sp_two L l (base (g l 0))
 obtain ⟨s3, -⟩ := sp_three L l (base (g l 0))
 obtain ⟨s5, -⟩ := sp_four L l (base (g l 0))
 have ok := (okC_three L l (L - 1) (by omega)).1 ho
 unfold cls at hc
 rcases (show L = 2 ∨ L = 3 ∨ L = 4 by omega) with rfl | rfl | rfl
 ·have hx : base (g l 0) = g l 0 - 192 := by unfold base; omega
  unfold val
  rw [<- hL, show (2 : Nat) - 1 = 1 from rfl, s1, if_pos (by omega), hx]
  rw [if_pos (by omega)]
  omega
 ·have hx : base (g l 0) = g l 0 - 224 := by unfold base; omega
  unfold val
  rw [<- hL, show (3 : Nat) - 1 = 2 from rfl, s3, if_pos (by omega), s1, if_pos (by omega), hx]
  rw [if_neg (by omega), if_pos (by omega)]
  omega
 ·have hx : base (g l 0) = g l 0 - 240 := by unfold base; omega
  unfold val
  rw [<- hL, show (4 : Nat) - 1 = 3 from rfl, s5, if_pos (by omega), s3, if_pos (by omega), s1, if_pos (by omega), hx]
  rw [if_neg (by omega), if_neg (by omega)]
  omega
def res (s m v : Int) : Int := if s ≠ 0 /\ m = s then v else 65533
def wid (m : Int) : Int := if m = 0 then 1 else m
theorem res_yes {s m v : Int} (h : s ≠ 0 /\ m = s) : res s m v = v := if_pos h
theorem res_no {s m v : Int} (h : ¬ (s ≠ 0 /\ m = s)) : res s m v = 65533 := if_neg h
def BestOut (s m L x : Int) : Prop := (s < L -> (x = m ∨ (m = 0 /\ x = 1)) /\ (s ≠ 0 -> m < s)) /\ (¬ s < L -> x = 1) /\ 1 <= x /\ x <= 4
def BestIn (s m n L K x : Int) : Prop := (L = s -> ((K = 1 /\ x = 1) ∨ (2 <= K /\ x = K - 1)) /\ K - 1 <= m /\ K <= L) /\ (L ≠ s -> K = 1 /\ BestOut s m L x) /\ 1 <= K /\ K <= n + 1 /\ 1 <= x /\ x <= 4
end Ru
def NextOut (s m : Int) (v4 v5 : Value) : Prop := ∃ (L : Nat) (x : Int), 2 <= L /\ L <= 5 /\ v5 = .int .i64 L /\ v4 = .int .i64 x /\ Hid (Ru.BestOut s m L x)
def NextIn (s m : Int) (n L : Nat) (v4 v6 : Value) : Prop := ∃ (K : Nat) (x : Int), v6 = .int .i64 K /\ v4 = .int .i64 x /\ 1 <= K /\ K <= 5 /\ K <= n + 1 /\ 1 <= x /\ x <= 4 /\ Hid (Ru.BestIn s m n L K x)
def FirstIs (v : Int) (w : World) (e : Ending) (w' : World) : Prop := ∃ h : Int, e = .returned (.tuple #[.int .i64 v, .int .i64 h]) /\ w = w'
theorem next_high (n : Nat) (b off cap : Nat) (w : World) (s m v : Int) (h1 : 1 <= n) (hm : n <= 9223372036854775807) (hcap : n <= cap) (a : Int) (ha : 128 <= a /\ a < 256) (h0 : w.cell? ⟨b, off, none⟩ = some (.int .u8 a))
 (hs : s = 0 ∨ s = 2 ∨ s = 3 ∨ s = 4) (hmb : 0 <= m /\ m <= s /\ m <= n) (hm1 : s ≠ 0 -> 1 <= m)
 (CB : Hid (∀ K L : Nat, 1 <= K -> K <= L -> K <= n -> 2 <= L -> L <= 4 -> Calls Try.prog 103 #[.slice (some ⟨b, off, none⟩) K cap, .int .i64 L] w fun e w' => e = .returned (.bool (decide ((L : Int) = s /\ (K : Int) <= m))) /\ w = w'))
 (CS : Hid (∀ L : Nat, 2 <= L -> (L : Int) = s -> m = s -> Calls Try.prog 104 #[.slice (some ⟨b, off, none⟩) L cap, .int .i64 L] w (FirstIs v w))) :
 Calls Try.prog 91 #[.slice (some ⟨b, off, none⟩) n cap] w fun e w' => e = .returned (.tuple #[.int .i64 (Ru.res s m v), .int .i64 (Ru.wid m)]) /\ w = w' := by
 have hna : ¬ a < 128 := by omega
 have HM := Lib.hid (And.intro hs (And.intro hmb hm1))
 clear hs hmb hm1
 go_enter Try.func91, Try.ntmps91
 go_wp2_with fail
 go_loop [4, 5] (fun v4 v5 => NextOut s m v4 v5) (fun _ v5 => 5 - (RowKit.intOf v5).toNat)
 case atStart => exact ⟨2, 1, by omega, by omega, rfl, rfl, Lib.hid (by have := HM.out; unfold Ru.BestOut; omega)⟩
 case round =>
  obtain ⟨L, x, L1, L2, rfl, rfl, HO⟩ := hrel
  by_cases hL : L <= 4
  ·go_wp2_with fail
   go_loop [4, 6] (fun v4 v6 => NextIn s m n L v4 v6) (fun _ v6 => L + 1 - (RowKit.intOf v6).toNat)
   case atStart => exact ⟨1, x, rfl, rfl, by omega, by omega, by omega, by have := HO.out; unfold Ru.BestOut at this; omega, by have := HO.out; unfold Ru.BestOut at this; omega, Lib.hid (by have := HO.out; have := HM.out; unfold Ru.BestOut Ru.BestIn at *; unfold Ru.BestOut; omega)⟩
   case round =>
    obtain ⟨K, y, rfl, rfl, k1, k2, k3, y1, y2, HI⟩ := hrel
    by_cases hK : K <= L /\ K <= n
    ·obtain ⟨g1, g2⟩ := hK
     have CK := CB.out K L k1 g1 g2 L1 hL
     by_cases hc : (L : Int) = s /\ (K : Int) <= m
     ·rw [decide_eq_true hc] at CK
      by_cases hKL : K = L
      ·subst hKL
       have hms : m = s := by have := HM.out; omega
       have CSK := Lib.hid (CS.out K L1 hc.1 hms)
       have eK : ((K : Int) == (K : Int)) = true := Ru.eq_t rfl
       have HC := Lib.hid (And.intro hc hms)
       have CK' := Lib.hid CK
       clear CK CB CS hc hms
       go_wp2_with (first | (go_at_call 103; ((with_reducible refine (CK'.out).mono ?_); rintro e w' ⟨rfl, rfl⟩)) | (go_at_call 104; ((with_reducible refine (CSK.out).mono ?_); rintro e w' ⟨h, rfl, rfl⟩)))
       go_ret2
       exact ⟨ret_two (Ru.res_yes (by have h1 := HC.out; have h2 := HM.out; omega)).symm (by have h1 := HC.out; have h2 := HM.out; unfold Ru.wid; omega), rfl⟩
      ·have eK : ((K : Int) == (L : Int)) = false := Ru.eq_f (by omega)
       have HC := Lib.hid hc
       have CK' := Lib.hid CK
       clear CK CB CS hc
       have hlt : K < L := by omega
       go_wp2_with (go_at_call 103; ((with_reducible refine (CK'.out).mono ?_); rintro e w' ⟨rfl, rfl⟩))
       go_round
       case rel => exact ⟨K + 1, max y K, by go_num, rfl, by omega, by omega, by omega, by omega, by omega, Lib.hid (by have h1 := HC.out; have h2 := HM.out; have h3 := HI.out; unfold Ru.BestIn Ru.BestOut at *; omega)⟩
       case measure => simp [RowKit.intOf]; omega
     ·rw [decide_eq_false hc] at CK
      have HC := Lib.hid hc
      have CK' := Lib.hid CK
      clear CK CB CS hc
      go_wp2_with (go_at_call 103; ((with_reducible refine (CK'.out).mono ?_); rintro e w' ⟨rfl, rfl⟩))
      go_round
      case rel => exact ⟨L + 1, y, by omega, by omega, by go_num, rfl, Lib.hid (by have h1 := HC.out; have h2 := HM.out; have h3 := HI.out; unfold Ru.BestIn Ru.BestOut at *; omega)⟩
      case measure => simp [RowKit.intOf]; omega
    ·clear CB CS
     by_cases g1 : K <= L
     all_goals
      go_wp2_with fail
      go_round
      case rel => exact ⟨L + 1, y, by omega, by omega, by go_num, rfl, Lib.hid (by have h2 := HM.out; have h3 := HI.out; unfold Ru.BestIn Ru.BestOut at *; omega)⟩
      case measure => simp [RowKit.intOf]; omega
  ·obtain rfl : L = 5 := by omega
   clear CB CS
   go_wp2_with fail
   go_ret2
   exact ⟨ret_two (Ru.res_no (by have h2 := HM.out; have h3 := HO.out; unfold Ru.BestOut at h3; omega)).symm (by have h2 := HM.out; have h3 := HO.out; unfold Ru.BestOut at h3; unfold Ru.wid; omega), rfl⟩
theorem rnext_any (l : List Int) (hl : Ru.By l) (h0 : l ≠ []) (b off cap : Nat) (w : World) (hm : l.length <= 9223372036854775807) (hcap : l.length <= cap) (hp : ∀ j, j < l.length -> w.cell? ⟨b, off + j, none⟩ = some (.int .u8 (Ru.g l j))) :
 Calls Try.prog 91 #[.slice (some ⟨b, off, none⟩) l.length cap] w fun e w' => e = .returned (.tuple #[.int .i64 (Ru.chL l), .int .i64 (Ru.wdL l : Nat)]) /\ w = w' := by
 have hlen := Ru.len_pos h0
 have y0 := hl.at_ 0
 have hc0 := hp 0 (by omega)
 rw [Nat.add_zero] at hc0
 rw [Ru.wdL_int h0]
 by_cases ha : Ru.g l 0 < 128
 ·have e1 : Ru.chL l = Ru.g l 0 := by unfold Ru.chL Ru.ch; rw [if_pos ha]
  have e2 : Ru.wd l.length (Ru.g l 0) (Ru.g l 1) (Ru.g l 2) (Ru.g l 3) = 1 := by unfold Ru.wd; rw [if_pos ha]
  rw [e1, e2]
  generalize Ru.g l 0 = a at *
  generalize l.length = n at *
  clear hp e1 e2 h0 hl
  go_enter Try.func91, Try.ntmps91
  go_wp2_with fail
  go_ret2
  exact ⟨rfl, rfl⟩
 ·have hmm := Ru.mm_le l.length (Ru.g l 0) (Ru.g l 1) (Ru.g l 2) (Ru.g l 3) (by omega)
  have e1 : Ru.chL l = Ru.res (Ru.need (Ru.g l 0)) (Ru.mm l.length (Ru.g l 0) (Ru.g l 1) (Ru.g l 2) (Ru.g l 3)) (Ru.val (Ru.g l 0) (Ru.g l 1) (Ru.g l 2) (Ru.g l 3)) := by unfold Ru.chL Ru.ch Ru.res; rw [if_neg ha]
  have e2 : Ru.wd l.length (Ru.g l 0) (Ru.g l 1) (Ru.g l 2) (Ru.g l 3) = Ru.wid (Ru.mm l.length (Ru.g l 0) (Ru.g l 1) (Ru.g l 2) (Ru.g l 3)) := by unfold Ru.wd Ru.wid; rw [if_neg ha]
  rw [e1, e2]
  refine next_high l.length b off cap w _ _ _ hlen hm hcap (Ru.g l 0) (by omega) hc0 (Ru.need_case _) hmm (fun h => Ru.mm_one h) (Lib.hid fun K L k1 k2 k3 l1 l2 => ?_) (Lib.hid fun L l1 hs hms => ?_)
  ·rcases (show L = 2 ∨ L = 3 ∨ L = 4 by omega) with rfl | rfl | rfl
   ·exact begins_two l.length K l b off cap w k1 (by omega) k3 hl (fun j hj => hp j (by omega))
   ·exact begins_three l.length K l b off cap w k1 (by omega) k3 hl (fun j hj => hp j (by omega))
   ·exact begins_four l.length K l b off cap w k1 (by omega) k3 hl (fun j hj => hp j (by omega))
  ·rw [<- hs] at hmm
   rcases (show L = 2 ∨ L = 3 ∨ L = 4 by have := Ru.need_case (Ru.g l 0); omega) with rfl | rfl | rfl
   ·have hb := (Ru.bg_two l.length 2 l (by omega) (by omega) (by omega)).2 ⟨hs, by omega⟩
    have hv := Ru.val_sp l 2 hs (by omega) hb.1 hb.2.1
    exact (span_two 2 l b off cap w (by omega) hl (by omega) (fun j hj => hp j (by omega))).mono fun e w' h => ⟨_, (h.1 ⟨hb.1, hb.2.1⟩).trans (ret_two hv rfl), h.2.2⟩
   ·have hb := (Ru.bg_three l.length 3 l (by omega) (by omega) (by omega)).2 ⟨hs, by omega⟩
    have hv := Ru.val_sp l 3 hs (by omega) hb.1 hb.2.1
    exact (span_three 3 l b off cap w (by omega) hl (by omega) (fun j hj => hp j (by omega))).mono fun e w' h => ⟨_, (h.1 ⟨hb.1, hb.2.1⟩).trans (ret_two hv rfl), h.2.2⟩
   ·have hb := (Ru.bg_four l.length 4 l (by omega) (by omega) (by omega)).2 ⟨hs, by omega⟩
    have hv := Ru.val_sp l 4 hs (by omega) hb.1 hb.2.1
    exact (span_four 4 l b off cap w (by omega) hl (by omega) (fun j hj => hp j (by omega))).mono fun e w' h => ⟨_, (h.1 ⟨hb.1, hb.2.1⟩).trans (ret_two hv rfl), h.2.2⟩
namespace Ru
inductive WayQ (r : List Int) (c : Int) (d t : Nat) : Prop
 | other (h : ((c : Int) == 13) = false) (ht : t = d)
 | last (h : ((c : Int) == 13) = true) (h2 : ¬ 1 < r.length) (ht : t = d)
 | lone (h : ((c : Int) == 13) = true) (h2 : 1 < r.length) (h3 : (g r 1 == 10) = false) (ht : t = d)
 | both (h : ((c : Int) == 13) = true) (h2 : 1 < r.length) (h3 : (g r 1 == 10) = true) (ht : t = 2)
theorem wayQ (r : List Int) (hr : r ≠ []) : WayQ r (chL r) (wdL r) (st r) := by
 by_cases h : chL r = 13
 ·have hd : wdL r = 1 := by
   have h1 := wdL_int hr
   unfold chL at h
   rw [wd_13 h] at h1
   omega
  unfold st
  rw [hd]
  by_cases h2 : 1 < r.length
  ·by_cases h3 : g r 1 = 10
   ·exact .both (eq_t h) h2 (eq_t h3) (by rw [if_pos ⟨h, h2, h3⟩])
   ·exact .lone (eq_t h) h2 (eq_f h3) (by rw [if_neg (fun hh => h3 hh.2.2)])
  ·exact .last (eq_t h) h2 (by rw [if_neg (fun hh => h2 hh.2.1)])
 ·exact .other (eq_f h) (by unfold st; rw [if_neg (fun hh => h hh.1)])
end Ru
def RReadAt (w : World) (l : List Int) (v0 v3 : Value) (wr : World) : Prop :=
 ∃ (k : Nat) (ds r : List Int) (A : Option Addr) (c' : Nat), Hid (r = l.drop k) /\ v0 = .slice A r.length c' /\ r.length <= c' /\ Hid (Bs w w.heap.size .u8 A r) /\ Hid (Ru.By r) /\ Hid (Ru.rd l = ds ++ Ru.rd r) /\ wr.ownsRow w.heap.size 3 1 v3 ds.length (nums .i64 ds) /\ Below w.heap.size w wr /\ ds.length + r.length <= 65536
def lenOf : Value -> Nat
 | .slice _ n _ => n
 | _ => 0
theorem rread_any (l : List Int) (hl : Ru.By l) (A : Option Addr) (cap : Nat) (w : World) (hm : l.length <= 65536) (hcap : l.length <= cap) (hA : Bs w w.heap.size .u8 A l) :
 Calls Try.prog 77 #[.slice A l.length cap] w (Made .i64 3 (Ru.rd l) w) := by
 obtain ⟨i0, hi, hz0, hz1, hz2⟩ := info_parts Try.info3
 have HA := Lib.hid hA
 have HL := Lib.hid hl
 clear hA hl
 go_enter Try.func77, Try.ntmps77
 go_wp2_with fail
 go_loopw [0, 3] (fun v0 v3 wr => RReadAt w l v0 v3 wr) (fun v0 _ _ => lenOf v0)
 case atStart => exact ⟨0, [], l, A, cap, Lib.hid rfl, rfl, hcap, HA, HL, Lib.hid rfl, World.ownsRow_nil _ _ _ _, Below.refl _ _, by simpa using hm⟩
 case round =>
  obtain ⟨k, ds, r, A', c', hr, rfl, hrc, hBs, hBy, hrd, hown, hbel, hlen⟩ := hrel
  have HO := Lib.hid hown
  have HB := Lib.hid hbel
  clear hown hbel HA HL
  by_cases hlt : 0 < r.length
  ·have hne : r ≠ [] := fun e => by rw [e] at hlt; simp at hlt
   obtain ⟨b, off, rfl, hb, hp⟩ := hBs.out hlt
   have CN : Hid (∀ wr : World, Below w.heap.size w wr -> Calls Try.prog 91 #[.slice (some ⟨b, off, none⟩) r.length c'] wr fun e w' => e = .returned (.tuple #[.int .i64 (Ru.chL r), .int .i64 (Ru.wdL r : Nat)]) /\ wr = w') := Lib.hid fun wr h =>
    rnext_any r hBy.out hne b off c' wr (by omega) hrc (fun j hj => (h.cell (p := ⟨b, off + j, none⟩) hb).trans (hp j hj))
   have hcell : 1 < r.length -> wr.cell? ⟨b, off + 1, none⟩ = some (.int .u8 (Ru.g r 1)) := fun h => (HB.out.cell (p := ⟨b, off + 1, none⟩) hb).trans (hp 1 h)
   have hway := Ru.wayQ r hne
   have hwd := Ru.wdL_le hne
   have hst := Ru.st_le hne
   have hrd' : Hid (Ru.rd l = (ds ++ [Ru.plain (Ru.chL r)]) ++ Ru.rd (r.drop (Ru.st r))) := Lib.hid (by
    rw [hrd.out, Ru.rd_cons hne, List.append_assoc]; rfl)
   have hr' : Hid (r.drop (Ru.st r) = l.drop (k + Ru.st r)) := Lib.hid (by rw [<- List.drop_drop, <- hr.out])
   have hB' := hBs.out.from_ (i := Ru.st r) hst.2 c' hrc
   rw [Option.map_some, Addr.add_lit] at hB'
   have hy' : Hid (Ru.By (r.drop (Ru.st r))) := Lib.hid (hBy.out.drop _)
   have hl' : Hid ((r.drop (Ru.st r)).length = r.length - Ru.st r) := Lib.hid (by simp)
   generalize Ru.chL r = c at *
   generalize Ru.wdL r = d at *
   generalize Ru.st r = t at *
   clear hrd hne hr hBs hBy hp
   obtain ⟨d1, d2, d3⟩ := hwd
   obtain ⟨t1, t2⟩ := hst
   have hc3 : ds.length + 1 <= maxLen := by unfold maxLen; omega
   have hc4 : (ds.length + 1) * 8 <= 140737488355328 := by omega
   rcases hway with ⟨h, rfl⟩ | ⟨h, h2, rfl⟩ | ⟨h, h2, h3, rfl⟩ | ⟨h, h2, h3, rfl⟩
   ·clear hcell
    have h13 : ¬ c = 13 := by simpa using h
    by_cases e12 : c = 12
    ·subst e12
     have HRD := Lib.hid (show Ru.rd l = (ds ++ [10]) ++ Ru.rd (r.drop t) from hrd'.out)
     clear hrd' h13
     by_cases hct : c' = t
     ·obtain rfl : t = c' := hct.symm
      rw [if_pos rfl] at hB'
      have HB' := Lib.hid hB'
      clear hB'
      go_wp2_with (first | (go_at_call 91; ((with_reducible refine (CN.out _ HB.out).mono ?_); rintro e w1 ⟨rfl, rfl⟩)) | (at_builtin; refine wpList_append_own _ rfl _ _ 39 rfl w.heap.size 3 i0 (.int .i64 0) 1 8 Try.underlying39 hi hz0 hz1 hz2 rfl (by decide) _ _ _ rfl (HO.out.alloc _) ⟨wr.heap.size, 0, none⟩ 1 1 [.int .i64 (10)] rfl rfl (one_cell _ _) (one_ok _) hc3 hc4 (alloc_size HB.out.size _) ?_; intro v' w3 hown3 hgrow _; have HO3 := Lib.hid (made_next HO.out HB.out (Below.refl _ _) hown3 hgrow); clear hown3 hgrow))
      go_roundw
      case rel => exact ⟨_, ds ++ [10], _, _, _, hr', by first | (rw [hl'.out]; done) | rw [hl'.out, show r.length - t = 0 by omega], by rw [hl'.out]; omega, HB', hy', HRD, HO3.out.1, HO3.out.2, by rw [hl'.out]; simp; omega⟩
      case measure => simp [lenOf]; omega
     ·rw [if_neg hct] at hB'
      have HB' := Lib.hid hB'
      clear hB'
      go_wp2_with (first | (go_at_call 91; ((with_reducible refine (CN.out _ HB.out).mono ?_); rintro e w1 ⟨rfl, rfl⟩)) | (at_builtin; refine wpList_append_own _ rfl _ _ 39 rfl w.heap.size 3 i0 (.int .i64 0) 1 8 Try.underlying39 hi hz0 hz1 hz2 rfl (by decide) _ _ _ rfl (HO.out.alloc _) ⟨wr.heap.size, 0, none⟩ 1 1 [.int .i64 (10)] rfl rfl (one_cell _ _) (one_ok _) hc3 hc4 (alloc_size HB.out.size _) ?_; intro v' w3 hown3 hgrow _; have HO3 := Lib.hid (made_next HO.out HB.out (Below.refl _ _) hown3 hgrow); clear hown3 hgrow))
      go_roundw
      case rel => exact ⟨_, ds ++ [10], _, _, _, hr', by first | (rw [hl'.out]; done) | rw [hl'.out, show r.length - t = 0 by omega], by rw [hl'.out]; omega, HB', hy', HRD, HO3.out.1, HO3.out.2, by rw [hl'.out]; simp; omega⟩
      case measure => simp [lenOf]; omega
    ·have f12 := Ru.eq_f e12
     by_cases e0 : c = 0
     ·subst e0
      have HRD := Lib.hid (show Ru.rd l = (ds ++ [65533]) ++ Ru.rd (r.drop t) from hrd'.out)
      clear hrd' h13
      by_cases hct : c' = t
      ·obtain rfl : t = c' := hct.symm
       rw [if_pos rfl] at hB'
       have HB' := Lib.hid hB'
       clear hB'
       go_wp2_with (first | (go_at_call 91; ((with_reducible refine (CN.out _ HB.out).mono ?_); rintro e w1 ⟨rfl, rfl⟩)) | (at_builtin; refine wpList_append_own _ rfl _ _ 39 rfl w.heap.size 3 i0 (.int .i64 0) 1 8 Try.underlying39 hi hz0 hz1 hz2 rfl (by decide) _ _ _ rfl (HO.out.alloc _) ⟨wr.heap.size, 0, none⟩ 1 1 [.int .i64 (65533)] rfl rfl (one_cell _ _) (one_ok _) hc3 hc4 (alloc_size HB.out.size _) ?_; intro v' w3 hown3 hgrow _; have HO3 := Lib.hid (made_next HO.out HB.out (Below.refl _ _) hown3 hgrow); clear hown3 hgrow))
       go_roundw
       case rel => exact ⟨_, ds ++ [65533], _, _, _, hr', by first | (rw [hl'.out]; done) | rw [hl'.out, show r.length - t = 0 by omega], by rw [hl'.out]; omega, HB', hy', HRD, HO3.out.1, HO3.out.2, by rw [hl'.out]; simp; omega⟩
       case measure => simp [lenOf]; omega
      ·rw [if_neg hct] at hB'
       have HB' := Lib.hid hB'
       clear hB'
       go_wp2_with (first | (go_at_call 91; ((with_reducible refine (CN.out _ HB.out).mono ?_); rintro e w1 ⟨rfl, rfl⟩)) | (at_builtin; refine wpList_append_own _ rfl _ _ 39 rfl w.heap.size 3 i0 (.int .i64 0) 1 8 Try.underlying39 hi hz0 hz1 hz2 rfl (by decide) _ _ _ rfl (HO.out.alloc _) ⟨wr.heap.size, 0, none⟩ 1 1 [.int .i64 (65533)] rfl rfl (one_cell _ _) (one_ok _) hc3 hc4 (alloc_size HB.out.size _) ?_; intro v' w3 hown3 hgrow _; have HO3 := Lib.hid (made_next HO.out HB.out (Below.refl _ _) hown3 hgrow); clear hown3 hgrow))
       go_roundw
       case rel => exact ⟨_, ds ++ [65533], _, _, _, hr', by first | (rw [hl'.out]; done) | rw [hl'.out, show r.length - t = 0 by omega], by rw [hl'.out]; omega, HB', hy', HRD, HO3.out.1, HO3.out.2, by rw [hl'.out]; simp; omega⟩
       case measure => simp [lenOf]; omega
     ·have f0 := Ru.eq_f e0
      have hpl : Ru.plain c = c := by unfold Ru.plain; rw [if_neg (by omega), if_neg e0]
      have HRD := Lib.hid (show Ru.rd l = (ds ++ [c]) ++ Ru.rd (r.drop t) by rw [<- hpl]; exact hrd'.out)
      clear hrd' h13 hpl e12 e0
      by_cases hct : c' = t
      ·obtain rfl : t = c' := hct.symm
       rw [if_pos rfl] at hB'
       have HB' := Lib.hid hB'
       clear hB'
       go_wp2_with (first | (go_at_call 91; ((with_reducible refine (CN.out _ HB.out).mono ?_); rintro e w1 ⟨rfl, rfl⟩)) | (at_builtin; refine wpList_append_own _ rfl _ _ 39 rfl w.heap.size 3 i0 (.int .i64 0) 1 8 Try.underlying39 hi hz0 hz1 hz2 rfl (by decide) _ _ _ rfl (HO.out.alloc _) ⟨wr.heap.size, 0, none⟩ 1 1 [.int .i64 (c)] rfl rfl (one_cell _ _) (one_ok _) hc3 hc4 (alloc_size HB.out.size _) ?_; intro v' w3 hown3 hgrow _; have HO3 := Lib.hid (made_next HO.out HB.out (Below.refl _ _) hown3 hgrow); clear hown3 hgrow))
       go_roundw
       case rel => exact ⟨_, ds ++ [c], _, _, _, hr', by first | (rw [hl'.out]; done) | rw [hl'.out, show r.length - t = 0 by omega], by rw [hl'.out]; omega, HB', hy', HRD, HO3.out.1, HO3.out.2, by rw [hl'.out]; simp; omega⟩
       case measure => simp [lenOf]; omega
      ·rw [if_neg hct] at hB'
       have HB' := Lib.hid hB'
       clear hB'
       go_wp2_with (first | (go_at_call 91; ((with_reducible refine (CN.out _ HB.out).mono ?_); rintro e w1 ⟨rfl, rfl⟩)) | (at_builtin; refine wpList_append_own _ rfl _ _ 39 rfl w.heap.size 3 i0 (.int .i64 0) 1 8 Try.underlying39 hi hz0 hz1 hz2 rfl (by decide) _ _ _ rfl (HO.out.alloc _) ⟨wr.heap.size, 0, none⟩ 1 1 [.int .i64 (c)] rfl rfl (one_cell _ _) (one_ok _) hc3 hc4 (alloc_size HB.out.size _) ?_; intro v' w3 hown3 hgrow _; have HO3 := Lib.hid (made_next HO.out HB.out (Below.refl _ _) hown3 hgrow); clear hown3 hgrow))
       go_roundw
       case rel => exact ⟨_, ds ++ [c], _, _, _, hr', by first | (rw [hl'.out]; done) | rw [hl'.out, show r.length - t = 0 by omega], by rw [hl'.out]; omega, HB', hy', HRD, HO3.out.1, HO3.out.2, by rw [hl'.out]; simp; omega⟩
       case measure => simp [lenOf]; omega
   ·have hpl : Ru.plain c = 10 := by unfold Ru.plain; rw [if_pos (Or.inl (by simpa using h))]
    have HRD := Lib.hid (show Ru.rd l = (ds ++ [10]) ++ Ru.rd (r.drop t) by rw [<- hpl]; exact hrd'.out)
    clear hrd' hpl
    clear hcell
    by_cases hct : c' = t
    ·obtain rfl : t = c' := hct.symm
     rw [if_pos rfl] at hB'
     have HB' := Lib.hid hB'
     clear hB'
     go_wp2_with (first | (go_at_call 91; ((with_reducible refine (CN.out _ HB.out).mono ?_); rintro e w1 ⟨rfl, rfl⟩)) | (at_builtin; refine wpList_append_own _ rfl _ _ 39 rfl w.heap.size 3 i0 (.int .i64 0) 1 8 Try.underlying39 hi hz0 hz1 hz2 rfl (by decide) _ _ _ rfl (HO.out.alloc _) ⟨wr.heap.size, 0, none⟩ 1 1 [.int .i64 (10)] rfl rfl (one_cell _ _) (one_ok _) hc3 hc4 (alloc_size HB.out.size _) ?_; intro v' w3 hown3 hgrow _; have HO3 := Lib.hid (made_next HO.out HB.out (Below.refl _ _) hown3 hgrow); clear hown3 hgrow))
     go_roundw
     case rel => exact ⟨_, ds ++ [10], _, _, _, hr', by first | (rw [hl'.out]; done) | rw [hl'.out, show r.length - t = 0 by omega], by rw [hl'.out]; omega, HB', hy', HRD, HO3.out.1, HO3.out.2, by rw [hl'.out]; simp; omega⟩
     case measure => simp [lenOf]; omega
    ·rw [if_neg hct] at hB'
     have HB' := Lib.hid hB'
     clear hB'
     go_wp2_with (first | (go_at_call 91; ((with_reducible refine (CN.out _ HB.out).mono ?_); rintro e w1 ⟨rfl, rfl⟩)) | (at_builtin; refine wpList_append_own _ rfl _ _ 39 rfl w.heap.size 3 i0 (.int .i64 0) 1 8 Try.underlying39 hi hz0 hz1 hz2 rfl (by decide) _ _ _ rfl (HO.out.alloc _) ⟨wr.heap.size, 0, none⟩ 1 1 [.int .i64 (10)] rfl rfl (one_cell _ _) (one_ok _) hc3 hc4 (alloc_size HB.out.size _) ?_; intro v' w3 hown3 hgrow _; have HO3 := Lib.hid (made_next HO.out HB.out (Below.refl _ _) hown3 hgrow); clear hown3 hgrow))
     go_roundw
     case rel => exact ⟨_, ds ++ [10], _, _, _, hr', by first | (rw [hl'.out]; done) | rw [hl'.out, show r.length - t = 0 by omega], by rw [hl'.out]; omega, HB', hy', HRD, HO3.out.1, HO3.out.2, by rw [hl'.out]; simp; omega⟩
     case measure => simp [lenOf]; omega
   ·have hpl : Ru.plain c = 10 := by unfold Ru.plain; rw [if_pos (Or.inl (by simpa using h))]
    have HRD := Lib.hid (show Ru.rd l = (ds ++ [10]) ++ Ru.rd (r.drop t) by rw [<- hpl]; exact hrd'.out)
    clear hrd' hpl
    replace hcell := hcell h2
    by_cases hct : c' = t
    ·obtain rfl : t = c' := hct.symm
     rw [if_pos rfl] at hB'
     have HB' := Lib.hid hB'
     clear hB'
     go_wp2_with (first | (go_at_call 91; ((with_reducible refine (CN.out _ HB.out).mono ?_); rintro e w1 ⟨rfl, rfl⟩)) | (at_builtin; refine wpList_append_own _ rfl _ _ 39 rfl w.heap.size 3 i0 (.int .i64 0) 1 8 Try.underlying39 hi hz0 hz1 hz2 rfl (by decide) _ _ _ rfl (HO.out.alloc _) ⟨wr.heap.size, 0, none⟩ 1 1 [.int .i64 (10)] rfl rfl (one_cell _ _) (one_ok _) hc3 hc4 (alloc_size HB.out.size _) ?_; intro v' w3 hown3 hgrow _; have HO3 := Lib.hid (made_next HO.out HB.out (Below.refl _ _) hown3 hgrow); clear hown3 hgrow))
     go_roundw
     case rel => exact ⟨_, ds ++ [10], _, _, _, hr', by first | (rw [hl'.out]; done) | rw [hl'.out, show r.length - t = 0 by omega], by rw [hl'.out]; omega, HB', hy', HRD, HO3.out.1, HO3.out.2, by rw [hl'.out]; simp; omega⟩
     case measure => simp [lenOf]; omega
    ·rw [if_neg hct] at hB'
     have HB' := Lib.hid hB'
     clear hB'
     go_wp2_with (first | (go_at_call 91; ((with_reducible refine (CN.out _ HB.out).mono ?_); rintro e w1 ⟨rfl, rfl⟩)) | (at_builtin; refine wpList_append_own _ rfl _ _ 39 rfl w.heap.size 3 i0 (.int .i64 0) 1 8 Try.underlying39 hi hz0 hz1 hz2 rfl (by decide) _ _ _ rfl (HO.out.alloc _) ⟨wr.heap.size, 0, none⟩ 1 1 [.int .i64 (10)] rfl rfl (one_cell _ _) (one_ok _) hc3 hc4 (alloc_size HB.out.size _) ?_; intro v' w3 hown3 hgrow _; have HO3 := Lib.hid (made_next HO.out HB.out (Below.refl _ _) hown3 hgrow); clear hown3 hgrow))
     go_roundw
     case rel => exact ⟨_, ds ++ [10], _, _, _, hr', by first | (rw [hl'.out]; done) | rw [hl'.out, show r.length - t = 0 by omega], by rw [hl'.out]; omega, HB', hy', HRD, HO3.out.1, HO3.out.2, by rw [hl'.out]; simp; omega⟩
     case measure => simp [lenOf]; omega
   ·have hpl : Ru.plain c = 10 := by unfold Ru.plain; rw [if_pos (Or.inl (by simpa using h))]
    have HRD := Lib.hid (show Ru.rd l = (ds ++ [10]) ++ Ru.rd (r.drop 2) by rw [<- hpl]; exact hrd'.out)
    clear hrd' hpl
    replace hcell := hcell h2
    by_cases hct : c' = 2
    ·subst hct
     rw [if_pos rfl] at hB'
     have HB' := Lib.hid hB'
     clear hB'
     go_wp2_with (first | (go_at_call 91; ((with_reducible refine (CN.out _ HB.out).mono ?_); rintro e w1 ⟨rfl, rfl⟩)) | (at_builtin; refine wpList_append_own _ rfl _ _ 39 rfl w.heap.size 3 i0 (.int .i64 0) 1 8 Try.underlying39 hi hz0 hz1 hz2 rfl (by decide) _ _ _ rfl (HO.out.alloc _) ⟨wr.heap.size, 0, none⟩ 1 1 [.int .i64 (10)] rfl rfl (one_cell _ _) (one_ok _) hc3 hc4 (alloc_size HB.out.size _) ?_; intro v' w3 hown3 hgrow _; have HO3 := Lib.hid (made_next HO.out HB.out (Below.refl _ _) hown3 hgrow); clear hown3 hgrow))
     go_roundw
     case rel => exact ⟨_, ds ++ [10], _, _, _, hr', by first | (rw [hl'.out]; done) | rw [hl'.out, show r.length - 2 = 0 by omega], by rw [hl'.out]; omega, HB', hy', HRD, HO3.out.1, HO3.out.2, by rw [hl'.out]; simp; omega⟩
     case measure => simp [lenOf]; omega
    ·rw [if_neg hct] at hB'
     have HB' := Lib.hid hB'
     clear hB'
     go_wp2_with (first | (go_at_call 91; ((with_reducible refine (CN.out _ HB.out).mono ?_); rintro e w1 ⟨rfl, rfl⟩)) | (at_builtin; refine wpList_append_own _ rfl _ _ 39 rfl w.heap.size 3 i0 (.int .i64 0) 1 8 Try.underlying39 hi hz0 hz1 hz2 rfl (by decide) _ _ _ rfl (HO.out.alloc _) ⟨wr.heap.size, 0, none⟩ 1 1 [.int .i64 (10)] rfl rfl (one_cell _ _) (one_ok _) hc3 hc4 (alloc_size HB.out.size _) ?_; intro v' w3 hown3 hgrow _; have HO3 := Lib.hid (made_next HO.out HB.out (Below.refl _ _) hown3 hgrow); clear hown3 hgrow))
     go_roundw
     case rel => exact ⟨_, ds ++ [10], _, _, _, hr', by first | (rw [hl'.out]; done) | rw [hl'.out, show r.length - 2 = 0 by omega], by rw [hl'.out]; omega, HB', hy', HRD, HO3.out.1, HO3.out.2, by rw [hl'.out]; simp; omega⟩
     case measure => simp [lenOf]; omega
  ·have hr0 : r = [] := List.eq_nil_of_length_eq_zero (by omega)
   have hd : Ru.rd l = ds := by rw [hrd.out, hr0, Ru.rd_nil, List.append_nil]
   have HD := Lib.hid hd
   clear hd hrd hr0
   go_wp2_with fail
   go_ret
   exact ⟨_, rfl, by rw [HD.out]; exact HO.out, HB.out⟩
theorem ttext_any (l : List Int) (A : Option Addr) (cap : Nat) (w : World) (hm : l.length <= 65536) (hcap : l.length <= cap) (hA : Bs w w.heap.size .i64 A l) :
 Calls Try.prog 102 #[.slice A l.length cap] w fun e w' => e = .returned (.string (Tk.str l)) /\ Below w.heap.size w w' := by
 have C1 := Lib.hid ((rwrite_any l A cap w hm hcap hA).mono fun _ _ h => made_form h)
 clear hA
 unfold Tk.str
 generalize Ru.wr l = r at *
 go_enter Try.func102, Try.ntmps102
 go_wp2_with (go_at_call 110; ((with_reducible refine (C1.out).mono ?_); rintro e w1 ⟨A1, c1, rfl, k1, B1, b1⟩; have cv := conv_bytes c1 B1))
 go_ret
 exact ⟨rfl, b1⟩
def NameAt (l : List Int) (k0 : Nat) (w : World) (v1 v6 : Value) (wr : World) : Prop :=
 ∃ (k : Nat) (ds : List Int), k <= l.length /\ v1 = .int .i64 k /\ Hid (Tk.name l k0 = (ds ++ (Tk.name l k).1, (Tk.name l k).2)) /\ wr.ownsRow w.heap.size 3 1 v6 ds.length (nums .i64 ds) /\ Below w.heap.size w wr /\ ds.length <= k
def Named (l : List Int) (k : Nat) (w : World) (e : Ending) (w' : World) : Prop := e = .returned (.tuple #[.string (Tk.str (Tk.name l k).1), .int .i64 ((Tk.name l k).2 : Nat)]) /\ Below w.heap.size w w'
theorem tname_any (l : List Int) (x : Int) (k0 : Nat) (hx : x = (k0 : Int)) (b off cap : Nat) (w : World) (hm : l.length <= 65536) (hk0 : k0 <= l.length) (hb : b < w.heap.size) (hp : On w l b off) :
 Calls Try.prog 97 #[.slice (some ⟨b, off, none⟩) l.length cap, .int .i64 x] w (Named l k0 w) := by
 subst hx
 obtain ⟨i0, hi, hz0, hz1, hz2⟩ := info_parts Try.info3
 have CA : Hid (∀ wr, Below w.heap.size w wr -> AtIs l b off cap wr) := Lib.hid fun wr h => (at_is l b off cap wr hm (hp.below hb h)).out
 have CE : Hid (∀ wr, Below w.heap.size w wr -> EscIs l b off cap wr) := Lib.hid fun wr h => (esc_is l b off cap wr hm (hp.below hb h)).out
 have CM : Hid (∀ wr (k : Nat), Below w.heap.size w wr -> k + 1 < l.length -> Calls Try.prog 105 #[.slice (some ⟨b, off, none⟩) l.length cap, .int .i64 k] wr fun e w' => e = .returned (.tuple #[.int .i64 (Tk.meant l k).1, .int .i64 ((Tk.meant l k).2 : Nat)]) /\ wr = w') := Lib.hid fun wr k h hk => tmeant_any l k b off cap wr hm hk (hp.below hb h)
 clear hp
 go_enter Try.func97, Try.ntmps97
 go_wp2_with fail
 go_loopw [1, 6] (fun v1 v6 wr => NameAt l k0 w v1 v6 wr) (fun v1 _ _ => l.length - (RowKit.intOf v1).toNat)
 case atStart => exact ⟨k0, [], hk0, rfl, Lib.hid rfl, World.ownsRow_nil _ _ _ _, Below.refl _ _, by simp⟩
 case round =>
  obtain ⟨k, ds, hk, rfl, hrd, hown, hbel, hds⟩ := hrel
  have HO := Lib.hid hown
  have HB := Lib.hid hbel
  clear hown hbel
  have A0 := Lib.hid (CA.out wr HB.out _ k rfl)
  have E0 := Lib.hid (CE.out wr HB.out _ k rfl (by omega))
  have hin : Tk.inN l k = (Tk.esc l k || Ru.witB (Tk.at' l k)) := rfl
  have hc3 : ds.length + 1 <= maxLen := by unfold maxLen; omega
  have hc4 : (ds.length + 1) * 8 <= 140737488355328 := by omega
  cases hI : Tk.inN l k
  ·have hN := Tk.name_no hI
   rw [hI] at hin
   have hor : Tk.esc l k = false /\ Ru.witB (Tk.at' l k) = false := by simpa using hin.symm
   obtain ⟨he, hw⟩ := hor
   have HD : Hid (Tk.name l k0 = (ds, k)) := Lib.hid (by rw [hrd.out, hN, List.append_nil])
   obtain ⟨A1, c1, hv, k1, B1⟩ := own_bs HO.out
   subst hv
   have CT := Lib.hid (ttext_any ds A1 c1 wr (by omega) k1 B1)
   clear hin hN hrd CA CE CM
   generalize Tk.at' l k = a at *
   generalize Tk.esc l k = eb at *
   go_wp2_with (first | (go_at_call 93; ((with_reducible refine (A0.out).mono ?_); rintro e w' ⟨rfl, rfl⟩)) | (go_at_call 96; ((with_reducible refine (E0.out).mono ?_); rintro e w' ⟨rfl, rfl⟩)) | (go_at_call 95; ((with_reducible refine (rwithin_any _ _).mono ?_); rintro e w' ⟨rfl, rfl⟩)) | (go_at_call 102; ((with_reducible refine (CT.out).mono ?_); rintro e w2 ⟨rfl, b2⟩)))
   go_ret2
   exact ⟨by rw [HD.out]; rfl, HB.out.trans (b2.mono HB.out.size)⟩
  ·have hone := Tk.oneN_le hI
   have hlt := Tk.inN_lt hI
   have HD : Hid (Tk.name l k0 = ((ds ++ [(Tk.oneN l k).1]) ++ (Tk.name l (Tk.oneN l k).2).1, (Tk.name l (Tk.oneN l k).2).2)) := Lib.hid (by rw [hrd.out, Tk.name_yes hI, List.append_assoc]; rfl)
   by_cases h92 : Tk.at' l k = 92
   ·have he := Tk.inN_esc hI h92
    have M0 := Lib.hid (CM.out wr k HB.out (Tk.esc_lt he).1)
    have e1 : Tk.oneN l k = Tk.meant l k := by unfold Tk.oneN; rw [if_pos h92]
    rw [e1] at hone HD
    clear hin hI hrd CA CE CM e1
    generalize Tk.esc l k = eb at *
    subst he
    rw [h92] at A0
    clear h92
    generalize Tk.meant l k = me at *
    obtain ⟨c, k'⟩ := me
    simp only at hone HD M0
    go_wp2_with (first | (go_at_call 93; ((with_reducible refine (A0.out).mono ?_); rintro e w' ⟨rfl, rfl⟩)) | (go_at_call 96; ((with_reducible refine (E0.out).mono ?_); rintro e w' ⟨rfl, rfl⟩)) | (go_at_call 95; ((with_reducible refine (rwithin_any _ _).mono ?_); rintro e w' ⟨rfl, rfl⟩)) | (go_at_call 105; ((with_reducible refine (M0.out).mono ?_); rintro e w' ⟨rfl, rfl⟩)) | (at_builtin; refine wpList_append_own _ rfl _ _ 39 rfl w.heap.size 3 i0 (.int .i64 0) 1 8 Try.underlying39 hi hz0 hz1 hz2 rfl (by decide) _ _ _ rfl (HO.out.alloc _) ⟨wr.heap.size, 0, none⟩ 1 1 [.int .i64 c] rfl rfl (one_cell _ _) (one_ok _) hc3 hc4 (alloc_size HB.out.size _) ?_; intro v' w3 hown3 hgrow _; have HO3 := Lib.hid (made_next HO.out HB.out (Below.refl _ _) hown3 hgrow); clear hown3 hgrow))
    go_roundw
    case rel => exact ⟨k', ds ++ [c], hone.2, rfl, HD, HO3.out.1, HO3.out.2, by simp; omega⟩
    case measure => simp [RowKit.intOf]; omega
   ·have e1 : Tk.oneN l k = (Tk.at' l k, k + 1) := by unfold Tk.oneN; rw [if_neg h92]
    rw [e1] at hone HD
    have f92 := Ru.eq_f h92
    rw [hI] at hin
    have hor : Tk.esc l k = true ∨ (Tk.esc l k = false /\ Ru.witB (Tk.at' l k) = true) := by
     cases he : Tk.esc l k
     ·rw [he] at hin; right; exact ⟨rfl, by simpa using hin.symm⟩
     ·left; rfl
    clear hin hI hrd CA CE CM e1 h92
    generalize Tk.at' l k = a at *
    generalize Tk.esc l k = eb at *
    rcases hor with rfl | ⟨rfl, hw⟩
    all_goals
     go_wp2_with (first | (go_at_call 93; ((with_reducible refine (A0.out).mono ?_); rintro e w' ⟨rfl, rfl⟩)) | (go_at_call 96; ((with_reducible refine (E0.out).mono ?_); rintro e w' ⟨rfl, rfl⟩)) | (go_at_call 95; ((with_reducible refine (rwithin_any _ _).mono ?_); rintro e w' ⟨rfl, rfl⟩)) | (at_builtin; refine wpList_append_own _ rfl _ _ 39 rfl w.heap.size 3 i0 (.int .i64 0) 1 8 Try.underlying39 hi hz0 hz1 hz2 rfl (by decide) _ _ _ rfl (HO.out.alloc _) ⟨wr.heap.size, 0, none⟩ 1 1 [.int .i64 a] rfl rfl (one_cell _ _) (one_ok _) hc3 hc4 (alloc_size HB.out.size _) ?_; intro v' w3 hown3 hgrow _; have HO3 := Lib.hid (made_next HO.out HB.out (Below.refl _ _) hown3 hgrow); clear hown3 hgrow))
     go_roundw
     case rel => exact ⟨k + 1, ds ++ [a], by omega, by go_num, HD, HO3.out.1, HO3.out.2, by simp; omega⟩
     case measure => simp [RowKit.intOf]; omega
end Go.Proofs.Ytaofkaehhikfaaa
