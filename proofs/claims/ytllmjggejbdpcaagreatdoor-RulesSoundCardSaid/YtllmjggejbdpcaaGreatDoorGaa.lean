/-
  What all texts of a seat share: endings, the rows of the plain types, old cells behind a call that makes memory.
-/
import Derived.Test.YtllmjggejbdpcaaGreatDoorRows
import Derived.WalkKit
import Derived.Below
import Derived.Lib.MinMax
import Derived.Lib.DecodeNEq
import Derived.Lib.RuneBytes
import Derived.WalkSpells
import Derived.WalkLawsBesides
import Derived.Lib.Hide
import Derived.Laws.OwnMore
import Derived.Deep.AppendLies
import Derived.Deep.Draws
import Derived.Deep.QuietTactic
import Derived.BigQuiet
import Derived.LoopTactic
import Derived.OwnWalk
import Derived.Lib.Strings
namespace Go.Proofs.YtllmjggejbdpcaaGreatDoor
open Go.RowKit
theorem ret_int {k : IntKind} {a b : Int} (h : a = b) : Ending.returned (.int k a) = .returned (.int k b) := by rw [h]
theorem ret_bool {a b : Bool} (h : a = b) : Ending.returned (.bool a) = .returned (.bool b) := by rw [h]
theorem ret_two {k1 k2 : IntKind} {a b c d : Int} (h1 : a = c) (h2 : b = d) : Ending.returned (.tuple #[.int k1 a, .int k2 b]) = .returned (.tuple #[.int k1 c, .int k2 d]) := by rw [h1, h2]
theorem Tryz.info5 : (Tryz.prog.info? 5).map (fun i => (i.zero, i.size, i.bytes)) = some (some (.int .u8 0), 1, 1) := by kernel_rfl
theorem Tryz.info3 : (Tryz.prog.info? 3).map (fun i => (i.zero, i.size, i.bytes)) = some (some (.int .i64 0), 1, 8) := by kernel_rfl
end Go.Proofs.YtllmjggejbdpcaaGreatDoor
namespace Go.Proofs.YtllmjggejbdpcaaGreatDoor
namespace Ru
open Go.Lib
def need (a : Int) : Int := if a < 194 then 0 else if a < 224 then 2 else if a < 240 then 3 else if a < 245 then 4 else 0
def lo2 (a : Int) : Int := if a = 224 then 160 else if a = 240 then 144 else 128
def hi2 (a : Int) : Int := if a = 237 then 159 else if a = 244 then 143 else 191
def mm (n : Int) (a b c d : Int) : Int :=
 if need a = 0 then 0
 else if ¬ (1 < n /\ lo2 a <= b /\ b <= hi2 a) then 1
 else if need a = 2 then 2
 else if ¬ (2 < n /\ 128 <= c /\ c <= 191) then 2
 else if need a = 3 then 3
 else if ¬ (3 < n /\ 128 <= d /\ d <= 191) then 3
 else 4
def val (a b c d : Int) : Int :=
 if need a = 2 then a % 32 * 64 + b % 64
 else if need a = 3 then a % 16 * 4096 + b % 64 * 64 + c % 64
 else a % 8 * 262144 + b % 64 * 4096 + c % 64 * 64 + d % 64
def ch (n : Int) (a b c d : Int) : Int :=
 if a < 128 then a else if need a ≠ 0 /\ mm n a b c d = need a then val a b c d else 65533
def wd (n : Int) (a b c d : Int) : Int :=
 if a < 128 then 1 else if mm n a b c d = 0 then 1 else mm n a b c d
theorem need_case (a : Int) : need a = 0 ∨ need a = 2 ∨ need a = 3 ∨ need a = 4 := by unfold need; omega
theorem mm_le (n a b c d : Int) (hn : 1 <= n) : 0 <= mm n a b c d /\ mm n a b c d <= need a /\ mm n a b c d <= n := by
 have h := need_case a
 unfold mm
 repeat' split
 all_goals omega
theorem wd_le (n a b c d : Int) (hn : 1 <= n) : 1 <= wd n a b c d /\ wd n a b c d <= 4 /\ wd n a b c d <= n := by
 have h := mm_le n a b c d hn
 have g := need_case a
 unfold wd
 repeat' split
 all_goals omega
def full (m : Int) (a b c : Int) : Bool :=
 decide ((a < 128 ∨ need a <= m) ∨ (1 < m /\ (b < lo2 a ∨ hi2 a < b)) ∨ (2 < m /\ (c < 128 ∨ 191 < c)))
theorem firstT_ascii {a : Nat} (h : a < 128) : firstT a = 240 := by unfold firstT; rw [if_pos h]
theorem firstT_none {a : Nat} (h : ¬ a < 128) (hn : need (a : Int) = 0) : firstT a = 241 := by
 unfold need at hn
 unfold firstT
 repeat' split
 all_goals first | rfl | (exfalso; revert hn; repeat' split) <;> omega
theorem firstT_some {a : Nat} (hn : need (a : Int) ≠ 0) : firstT a < 240 /\ ((firstT a % 8 : Nat) : Int) = need (a : Int) /\ ((accLo (firstT a / 16) : Nat) : Int) = lo2 (a : Int) /\ ((accHi (firstT a / 16) : Nat) : Int) = hi2 (a : Int) := by
 have hlt : 194 <= a /\ a < 245 := by unfold need at hn; revert hn; repeat' split <;> omega
 have h : (194 <= a /\ a < 224) ∨ a = 224 ∨ ((225 <= a /\ a < 237) ∨ (238 <= a /\ a < 240)) ∨ a = 237 ∨ a = 240 ∨ (241 <= a /\ a < 244) ∨ a = 244 := by omega
 rcases h with h | h | h | h | h | h | h
 ·rw [firstT_C2 h, show accLo (2 / 16) = 128 from rfl, show accHi (2 / 16) = 191 from rfl]; exact ⟨by decide, by unfold need; omega, by unfold lo2; omega, by unfold hi2; omega⟩
 ·rw [firstT_E0 h, show accLo (19 / 16) = 160 from rfl, show accHi (19 / 16) = 191 from rfl]; exact ⟨by decide, by unfold need; omega, by unfold lo2; omega, by unfold hi2; omega⟩
 ·rw [firstT_E1 h, show accLo (3 / 16) = 128 from rfl, show accHi (3 / 16) = 191 from rfl]; exact ⟨by decide, by unfold need; omega, by unfold lo2; omega, by unfold hi2; omega⟩
 ·rw [firstT_ED h, show accLo (35 / 16) = 128 from rfl, show accHi (35 / 16) = 159 from rfl]; exact ⟨by decide, by unfold need; omega, by unfold lo2; omega, by unfold hi2; omega⟩
 ·rw [firstT_F0 h, show accLo (52 / 16) = 144 from rfl, show accHi (52 / 16) = 191 from rfl]; exact ⟨by decide, by unfold need; omega, by unfold lo2; omega, by unfold hi2; omega⟩
 ·rw [firstT_F1 h, show accLo (4 / 16) = 128 from rfl, show accHi (4 / 16) = 191 from rfl]; exact ⟨by decide, by unfold need; omega, by unfold lo2; omega, by unfold hi2; omega⟩
 ·rw [firstT_F4 h, show accLo (68 / 16) = 128 from rfl, show accHi (68 / 16) = 143 from rfl]; exact ⟨by decide, by unfold need; omega, by unfold lo2; omega, by unfold hi2; omega⟩
theorem slow_is (n a b c d s lo hi : Nat) (hs : (s : Int) = need (a : Int)) (h0 : need (a : Int) ≠ 0) (hlo : (lo : Int) = lo2 (a : Int)) (hhi : (hi : Int) = hi2 (a : Int)) :
 (mm n a b c d = need a -> (((slowN n a b c d s lo hi).1 : Nat) : Int) = val a b c d /\ (((slowN n a b c d s lo hi).2 : Nat) : Int) = need a) /\ (mm n a b c d ≠ need a -> slowN n a b c d s lo hi = (65533, 1)) := by
 have hc := need_case (a : Int)
 unfold mm val slowN
 rw [<- hlo, <- hhi]
 rcases hc with hc | hc | hc | hc
 ·exact absurd hc h0
 ·obtain rfl : s = 2 := by omega
  simp only [hc, Int.reduceEq, Nat.reduceLeDiff, if_true, if_false]
  clear hs h0 hc hlo hhi
  constructor
  ·intro hm
   repeat' split at hm
   all_goals try omega
   repeat' split
   all_goals first | (exfalso; omega) | (simp only; omega)
  ·intro hm
   repeat' split at hm
   all_goals try omega
   all_goals
    repeat' split
    all_goals first | rfl | (exfalso; omega)
 ·obtain rfl : s = 3 := by omega
  simp only [hc, Int.reduceEq, Nat.reduceLeDiff, if_true, if_false]
  clear hs h0 hc hlo hhi
  constructor
  ·intro hm
   repeat' split at hm
   all_goals try omega
   repeat' split
   all_goals first | (exfalso; omega) | (simp only; omega)
  ·intro hm
   repeat' split at hm
   all_goals try omega
   all_goals
    repeat' split
    all_goals first | rfl | (exfalso; omega)
 ·obtain rfl : s = 4 := by omega
  simp only [hc, Int.reduceEq, Nat.reduceLeDiff, if_false]
  clear hs h0 hc hlo hhi
  constructor
  ·intro hm
   repeat' split at hm
   all_goals try omega
   repeat' split
   all_goals first | (exfalso; omega) | (simp only; omega)
  ·intro hm
   repeat' split at hm
   all_goals try omega
   all_goals
    repeat' split
    all_goals first | rfl | (exfalso; omega)
theorem decode_is (n a b c d : Nat) (hn : 1 <= n) (ha : a < 256) (hb : b < 256) (hc : c < 256) (hd : d < 256)
 (h : ¬ ((decodeN n a b c d).1 = 65533 /\ (decodeN n a b c d).2 = 1)) :
 (((decodeN n a b c d).1 : Nat) : Int) = ch n a b c d /\ (((decodeN n a b c d).2 : Nat) : Int) = wd n a b c d := by
 by_cases h1 : a < 128
 ·rw [ascii_eq n a b c d (firstT_ascii h1)]
  unfold ch wd
  rw [if_pos (by omega), if_pos (by omega)]
  exact ⟨rfl, rfl⟩
 ·by_cases h2 : need (a : Int) = 0
  ·rw [bad_eq n a b c d ha (firstT_none h1 h2)] at h
   exact absurd ⟨rfl, rfl⟩ h
  ·obtain ⟨f1, f2, f3, f4⟩ := firstT_some h2
   rw [<- slow_eq n a b c d hn hb hc hd f1] at h ⊢
   obtain ⟨g1, g2⟩ := slow_is n a b c d _ _ _ f2 h2 f3 f4
   by_cases hm : mm n a b c d = need a
   ·unfold ch wd
    rw [if_neg (by omega), if_pos ⟨h2, hm⟩, if_neg (by omega), if_neg (by omega), hm]
    exact g1 hm
   ·rw [g2 hm] at h
    exact absurd ⟨rfl, rfl⟩ h
theorem beginning_is (n k a b c d : Nat) (hn : 1 <= n) (ha : a < 256) (hb : b < 256) (hc : c < 256) (hd : d < 256)
 (h : (decodeN n a b c d).1 = 65533 /\ (decodeN n a b c d).2 = 1) (hk : 1 <= k) (hkn : k <= n) (h0 : k = 1 ∨ full k a b c = false) (h1 : k = n ∨ full (k + 1 : Int) a b c = true) :
 (65533 : Int) = ch n a b c d /\ (k : Int) = wd n a b c d := by
 by_cases g1 : a < 128
 ·rw [ascii_eq n a b c d (firstT_ascii g1)] at h
  have := h.1
  simp only at this
  omega
 ·by_cases g2 : need (a : Int) = 0
  ·have hk1 : k = 1 := by
    rcases h0 with h0 | h0
    ·exact h0
    ·unfold full at h0
     have := of_decide_eq_false h0
     omega
   unfold ch wd
   rw [if_neg (by omega), if_neg (by omega), if_neg (by omega)]
   have : mm n a b c d = 0 := by unfold mm; rw [if_pos g2]
   rw [if_pos this]
   omega
  ·obtain ⟨f1, f2, f3, f4⟩ := firstT_some g2
   rw [<- slow_eq n a b c d hn hb hc hd f1] at h
   obtain ⟨e1, e2⟩ := slow_is n a b c d _ _ _ f2 g2 f3 f4
   have hm : mm n a b c d ≠ need a := by
    intro hm
    have := e1 hm
    have hcase := need_case (a : Int)
    omega
   unfold ch wd
   rw [if_neg (by omega), if_neg (by omega), if_neg (by omega)]
   clear e1 e2 h f1 f2 f3 f4
   have hf : ∀ m : Int, full m a b c = true ↔ (((a : Int) < 128 ∨ need a <= m) ∨ (1 < m /\ ((b : Int) < lo2 a ∨ hi2 a < b)) ∨ (2 < m /\ ((c : Int) < 128 ∨ 191 < (c : Int)))) := fun m => by unfold full; exact decide_eq_true_iff
   have h0' : k = 1 ∨ ¬ (((a : Int) < 128 ∨ need a <= k) ∨ (1 < (k : Int) /\ ((b : Int) < lo2 a ∨ hi2 a < b)) ∨ (2 < (k : Int) /\ ((c : Int) < 128 ∨ 191 < (c : Int)))) := h0.imp_right fun h => by rw [<- hf]; simp [h]
   rw [hf] at h1
   have hcase := need_case (a : Int)
   have hmk : mm n a b c d = k := by
    revert hm
    unfold mm
    generalize lo2 (a : Int) = lo at *
    generalize hi2 (a : Int) = hi at *
    generalize need (a : Int) = s at *
    clear hf h0
    intro hm
    repeat' split at hm
    all_goals repeat' split
    all_goals omega
   rw [if_neg (by omega)]
   omega
end Ru
end Go.Proofs.YtllmjggejbdpcaaGreatDoor
namespace Go.Proofs.YtllmjggejbdpcaaGreatDoor
namespace Ru
def g (l : List Int) (i : Nat) : Int := l.getD i 0
def chL (l : List Int) : Int := ch l.length (g l 0) (g l 1) (g l 2) (g l 3)
def wdL (l : List Int) : Nat := (wd l.length (g l 0) (g l 1) (g l 2) (g l 3)).toNat
def plain (c : Int) : Int := if c = 13 ∨ c = 12 then 10 else if c = 0 then 65533 else c
def st (l : List Int) : Nat := if chL l = 13 /\ wdL l < l.length /\ g l (wdL l) = 10 then wdL l + 1 else wdL l
def rdF : Nat -> List Int -> List Int
 | 0, _ => []
 | f + 1, l => if l = [] then [] else plain (chL l) :: rdF f (l.drop (st l))
def rd (l : List Int) : List Int := rdF l.length l
def Is (c : Int) : Prop := 0 <= c /\ c <= 1114111 /\ (c < 55296 ∨ 57343 < c)
theorem len_pos {l : List Int} (h : l ≠ []) : 1 <= l.length := by
 cases l with
 | nil => exact absurd rfl h
 | cons => simp
theorem wdL_le {l : List Int} (h : l ≠ []) : 1 <= wdL l /\ wdL l <= 4 /\ wdL l <= l.length := by
 have h1 := len_pos h
 have := wd_le l.length (g l 0) (g l 1) (g l 2) (g l 3) (by omega)
 unfold wdL; omega
theorem wdL_int {l : List Int} (h : l ≠ []) : (wdL l : Int) = wd l.length (g l 0) (g l 1) (g l 2) (g l 3) := by
 have h1 := len_pos h
 have := wd_le l.length (g l 0) (g l 1) (g l 2) (g l 3) (by omega)
 unfold wdL; omega
theorem st_le {l : List Int} (h : l ≠ []) : 1 <= st l /\ st l <= l.length := by
 have := wdL_le h
 unfold st; split <;> omega
theorem rdF_nil (f : Nat) : rdF f [] = [] := by cases f <;> simp [rdF]
theorem rdF_more : ∀ (f : Nat) (l : List Int), l.length <= f -> rdF f l = rd l
 | 0, l, h => by
   have : l = [] := List.eq_nil_of_length_eq_zero (by omega)
   subst this; rfl
 | f + 1, l, h => by
   by_cases hl : l = []
   ·subst hl; simp [rdF_nil, rd]
   ·have h1 := len_pos hl
    have hs := st_le hl
    obtain ⟨m, hm⟩ : ∃ m, l.length = m + 1 := ⟨l.length - 1, by omega⟩
    have hd : (l.drop (st l)).length = l.length - st l := by simp
    unfold rd
    rw [hm]
    unfold rdF
    rw [if_neg hl, if_neg hl, rdF_more f _ (by omega), rdF_more m _ (by omega)]
termination_by f => f
theorem rd_nil : rd [] = [] := rfl
theorem rd_cons {l : List Int} (h : l ≠ []) : rd l = plain (chL l) :: rd (l.drop (st l)) := by
 have h1 := len_pos h
 have hs := st_le h
 obtain ⟨m, hm⟩ : ∃ m, l.length = m + 1 := ⟨l.length - 1, by omega⟩
 have hd : (l.drop (st l)).length = l.length - st l := by simp
 rw [<- rdF_more (m + 1) l (by omega)]
 unfold rdF
 rw [if_neg h, rdF_more m _ (by omega)]
theorem val_is {n a b c d : Int} (ha : 128 <= a) (h0 : need a ≠ 0) (hm : mm n a b c d = need a) : 128 <= val a b c d /\ Is (val a b c d) := by
 have hc := need_case a
 unfold Is
 rcases hc with hc | hc | hc | hc
 ·exact absurd hc h0
 all_goals
  unfold mm at hm
  unfold val
  rw [hc] at hm ⊢
  simp only [Int.reduceEq, if_false, if_true] at hm ⊢
  unfold need at hc
  unfold lo2 hi2 at hm
  repeat' split at hm
  all_goals first | omega | skip
theorem ch_is {n a b c d : Int} (ha : 0 <= a) : Is (ch n a b c d) := by
 unfold ch
 split
 ·unfold Is; omega
 ·split
  ·rename_i h1 h2
   exact (val_is (by omega) h2.1 h2.2).2
  ·unfold Is; omega
theorem plain_is {c : Int} (h : Is c) : Is (plain c) /\ plain c ≠ 0 /\ plain c ≠ 12 /\ plain c ≠ 13 := by
 unfold plain Is at *
 repeat' split
 all_goals omega
def By (l : List Int) : Prop := ∀ c ∈ l, 0 <= c /\ c < 256
theorem By.drop {l : List Int} (h : By l) (k : Nat) : By (l.drop k) := fun c hc => h c (List.mem_of_mem_drop hc)
theorem By.at_ {l : List Int} (h : By l) (i : Nat) : 0 <= g l i /\ g l i < 256 := by
 unfold g
 by_cases hi : i < l.length
 ·rw [List.getD_eq_getElem?_getD, List.getElem?_eq_getElem hi]
  exact h _ (List.getElem_mem hi)
 ·rw [List.getD_eq_getElem?_getD, List.getElem?_eq_none (by omega)]
  exact ⟨by simp, by simp⟩
theorem chL_is {l : List Int} (h : By l) : Is (chL l) := ch_is (h.at_ 0).1
theorem rd_is : ∀ (f : Nat) (l : List Int), By l -> ∀ c ∈ rdF f l, Is c /\ c ≠ 0 /\ c ≠ 12 /\ c ≠ 13
 | 0, _, _ => by intro c hc; simp [rdF] at hc
 | f + 1, l, h => by
   intro c hc
   unfold rdF at hc
   split at hc
   ·simp at hc
   ·rcases List.mem_cons.1 hc with rfl | hc
    ·exact plain_is (chL_is h)
    ·exact rd_is f _ (h.drop _) c hc
theorem rd_len : ∀ (f : Nat) (l : List Int), (rdF f l).length <= l.length
 | 0, _ => by simp [rdF]
 | f + 1, l => by
   unfold rdF
   split
   ·simp
   ·rename_i hl
    have h := rd_len f (l.drop (st l))
    have hs := st_le hl
    rw [List.length_drop] at h
    rw [List.length_cons]
    omega
end Ru
end Go.Proofs.YtllmjggejbdpcaaGreatDoor
namespace Go.Proofs.YtllmjggejbdpcaaGreatDoor
namespace Ru
open Go.Lib
theorem g_zero (x : Int) (l : List Int) : g (x :: l) 0 = x := rfl
theorem g_succ (x : Int) (l : List Int) (i : Nat) : g (x :: l) (i + 1) = g l i := rfl
theorem g_left {a b : List Int} {i : Nat} (h : i < a.length) : g (a ++ b) i = g a i := by
 unfold g
 rw [List.getD_eq_getElem?_getD, List.getD_eq_getElem?_getD, List.getElem?_append_left h]
theorem enc_one {c : Int} (h0 : 0 <= c) (h1 : c <= 127) (n b d e : Int) : ch n c b d e = c /\ wd n c b d e = 1 := by
 unfold ch wd; rw [if_pos (by omega), if_pos (by omega)]; exact ⟨rfl, rfl⟩
theorem need_two {a : Int} (h : 194 <= a /\ a < 224) : need a = 2 := by unfold need; omega
theorem need_three {a : Int} (h : 224 <= a /\ a < 240) : need a = 3 := by unfold need; omega
theorem need_four {a : Int} (h : 240 <= a /\ a < 245) : need a = 4 := by unfold need; omega
theorem enc_two {c : Int} (h0 : 128 <= c) (h1 : c <= 2047) (n d e : Int) (hn : 2 <= n) : ch n (192 + c / 64) (128 + c % 64) d e = c /\ wd n (192 + c / 64) (128 + c % 64) d e = 2 := by
 have hs := need_two (a := 192 + c / 64) (by omega)
 have hm : mm n (192 + c / 64) (128 + c % 64) d e = 2 := by
  unfold mm lo2 hi2
  rw [hs]
  simp only [Int.reduceEq, if_true, if_false]
  rw [if_neg (by omega)]
 unfold ch wd val
 rw [hm, hs]
 refine ⟨?_, ?_⟩
 ·rw [if_neg (by omega), if_pos (by omega)]
  simp only [Int.reduceEq, if_true, if_false]
  omega
 ·rw [if_neg (by omega), if_neg (by omega)]
theorem enc_three {c : Int} (h : (2048 <= c /\ c < 55296) ∨ (57343 < c /\ c <= 65535)) (n e : Int) (hn : 3 <= n) : ch n (224 + c / 4096) (128 + c / 64 % 64) (128 + c % 64) e = c /\ wd n (224 + c / 4096) (128 + c / 64 % 64) (128 + c % 64) e = 3 := by
 have hs := need_three (a := 224 + c / 4096) (by omega)
 have hm : mm n (224 + c / 4096) (128 + c / 64 % 64) (128 + c % 64) e = 3 := by
  unfold mm lo2 hi2
  rw [hs]
  simp only [Int.reduceEq, if_true, if_false]
  rw [if_neg (by omega), if_neg (by omega)]
 unfold ch wd val
 rw [hm, hs]
 refine ⟨?_, ?_⟩
 ·rw [if_neg (by omega), if_pos (by omega)]
  simp only [Int.reduceEq, if_true, if_false]
  omega
 ·rw [if_neg (by omega), if_neg (by omega)]
theorem enc_four {c : Int} (h0 : 65536 <= c) (h1 : c <= 1114111) (n : Int) (hn : 4 <= n) : ch n (240 + c / 262144) (128 + c / 4096 % 64) (128 + c / 64 % 64) (128 + c % 64) = c /\ wd n (240 + c / 262144) (128 + c / 4096 % 64) (128 + c / 64 % 64) (128 + c % 64) = 4 := by
 have hs := need_four (a := 240 + c / 262144) (by omega)
 have hm : mm n (240 + c / 262144) (128 + c / 4096 % 64) (128 + c / 64 % 64) (128 + c % 64) = 4 := by
  unfold mm lo2 hi2
  rw [hs]
  simp only [Int.reduceEq, if_false]
  rw [if_neg (by omega), if_neg (by omega), if_neg (by omega)]
 unfold ch wd val
 rw [hm, hs]
 refine ⟨?_, ?_⟩
 ·rw [if_neg (by omega), if_pos (by omega)]
  simp only [Int.reduceEq, if_false]
  omega
 ·rw [if_neg (by omega), if_neg (by omega)]
theorem enc_ch {c : Int} (h : Is c) (r : List Int) : chL (encodeRuneZ c ++ r) = c /\ wdL (encodeRuneZ c ++ r) = (encodeRuneZ c).length := by
 unfold Is at h
 unfold wdL chL
 by_cases h1 : c <= 127
 ·rw [encodeRuneZ_one h.1 h1]
  simp only [List.cons_append, List.nil_append, g_zero, g_succ, List.length_cons, List.length_nil]
  obtain ⟨e1, e2⟩ := enc_one h.1 h1 ((r.length + 1 : Nat) : Int) (g r 0) (g r 1) (g r 2)
  rw [e2]
  exact ⟨e1, rfl⟩
 ·by_cases h2 : c <= 2047
  ·rw [encodeRuneZ_two (by omega) h2]
   simp only [List.cons_append, List.nil_append, g_zero, g_succ, List.length_cons, List.length_nil]
   obtain ⟨e1, e2⟩ := enc_two (by omega) h2 ((r.length + 1 + 1 : Nat) : Int) (g r 0) (g r 1) (by omega)
   rw [e2]
   exact ⟨e1, rfl⟩
  ·by_cases h3 : c <= 65535
   ·rw [encodeRuneZ_three (by omega)]
    simp only [List.cons_append, List.nil_append, g_zero, g_succ, List.length_cons, List.length_nil]
    obtain ⟨e1, e2⟩ := enc_three (c := c) (by omega) ((r.length + 1 + 1 + 1 : Nat) : Int) (g r 0) (by omega)
    rw [e2]
    exact ⟨e1, rfl⟩
   ·rw [encodeRuneZ_four (by omega) (by omega)]
    simp only [List.cons_append, List.nil_append, g_zero, g_succ, List.length_cons, List.length_nil]
    obtain ⟨e1, e2⟩ := enc_four (c := c) (by omega) (by omega) ((r.length + 1 + 1 + 1 + 1 : Nat) : Int) (by omega)
    rw [e2]
    exact ⟨e1, rfl⟩
end Ru
end Go.Proofs.YtllmjggejbdpcaaGreatDoor
namespace Go.Proofs.YtllmjggejbdpcaaGreatDoor
open Go.RowKit
namespace Ru
def isB (c : Int) : Bool := decide (0 <= c /\ c <= 1114111 /\ (c < 55296 ∨ 57343 < c))
def letB (c : Int) : Bool := decide ((97 <= c /\ c <= 122) ∨ (65 <= c /\ c <= 90))
def digB (c : Int) : Bool := decide (48 <= c /\ c <= 57)
def whiB (c : Int) : Bool := decide (c = 9 ∨ c = 10 ∨ c = 32)
def begB (c : Int) : Bool := decide (((97 <= c /\ c <= 122) ∨ (65 <= c /\ c <= 90)) ∨ c = 95 ∨ (128 <= c /\ (0 <= c /\ c <= 1114111 /\ (c < 55296 ∨ 57343 < c))))
def witB (c : Int) : Bool := begB c || decide ((48 <= c /\ c <= 57) ∨ c = 45)
def hexV (c : Int) : Int := if 48 <= c /\ c <= 57 then c - 48 else if 97 <= c /\ c <= 102 then c - 87 else if 65 <= c /\ c <= 70 then c - 55 else -1
theorem isB_iff {c : Int} : isB c = true ↔ Is c := by unfold isB Is; exact decide_eq_true_iff
theorem eq_f {a b : Int} (h : ¬ a = b) : (a == b) = false := by rw [beq_eq_false_iff_ne]; exact h
theorem eq_t {a b : Int} (h : a = b) : (a == b) = true := by rw [beq_iff_eq]; exact h
end Ru
def nums (k : IntKind) (l : List Int) : List Value := l.map (Value.int k)
theorem nums_len (k : IntKind) (l : List Int) : (nums k l).length = l.length := by unfold nums; simp
theorem nums_app (k : IntKind) (a b : List Int) : nums k (a ++ b) = nums k a ++ nums k b := by unfold nums; simp
theorem nums_get {k : IntKind} {l : List Int} {j : Nat} (h : j < l.length) : (nums k l)[j]? = some (.int k (Ru.g l j)) := by
 unfold nums Ru.g
 rw [List.getElem?_map, List.getElem?_eq_getElem h, List.getD_eq_getElem?_getD, List.getElem?_eq_getElem h]; rfl
def Bs (w : World) (B : Nat) (k : IntKind) (A : Option Addr) (l : List Int) : Prop :=
 0 < l.length -> ∃ b off, A = some ⟨b, off, none⟩ /\ b < B /\ ∀ j, j < l.length -> w.cell? ⟨b, off + j, none⟩ = some (.int k (Ru.g l j))
section
variable {w w' : World} {B B' : Nat} {k : IntKind} {A : Option Addr} {l : List Int}
theorem Bs.nil : Bs w B k A [] := fun h => absurd h (by simp)
theorem Bs.keep (h : Bs w B k A l) (hk : ∀ p : Addr, p.block < B -> w'.cell? p = w.cell? p) : Bs w' B k A l := fun hl => by
 obtain ⟨b, off, e, hb, hc⟩ := h hl
 exact ⟨b, off, e, hb, fun j hj => (hk ⟨b, off + j, none⟩ hb).trans (hc j hj)⟩
theorem Bs.more (h : Bs w B k A l) (hB : B <= B') : Bs w B' k A l := fun hl => by
 obtain ⟨b, off, e, hb, hc⟩ := h hl
 exact ⟨b, off, e, by omega, hc⟩
theorem Bs.below (h : Bs w B k A l) (hb : Below B w w') : Bs w' B k A l := h.keep fun _ hp => hb.cell hp
theorem Bs.grown (h : Bs w B k A l) {row : Option Nat} (hg : w.grownBy w' row) (hB : B <= w.heap.size) (hr : ∀ x, row = some x -> B <= x) : Bs w' B k A l :=
 h.keep fun p hp => World.cell?_of_block (hg.block p.block (by omega) (fun e => by have := hr _ e.symm; omega))
theorem Bs.of_own {base : Nat} {e : TypeId} {c : Nat} (h : w.ownsRow base e 1 (.slice A l.length c) l.length (nums k l)) : Bs w w.heap.size k A l := fun hl => by
 obtain ⟨x, cap, hv, _, hlt⟩ := h.form hl
 have hA : A = some ⟨x, 0, none⟩ := by injection hv
 subst hA
 refine ⟨x, 0, rfl, hlt, fun j hj => ?_⟩
 have := h.cells (g := x) rfl j _ (nums_get (k := k) hj)
 rwa [Addr.add_lit] at this
theorem Bs.from_ (h : Bs w B k A l) {i : Nat} (hi : i <= l.length) (cap : Nat) (hc : l.length <= cap) :
 Bs w B k (if cap = i then A else A.map (·.add i)) (l.drop i) := fun hl => by
 rw [List.length_drop] at hl
 obtain ⟨b, off, rfl, hb, hcell⟩ := h (by omega)
 rw [if_neg (by omega)]
 refine ⟨b, off + i, ?_, hb, fun j hj => ?_⟩
 ·rw [Option.map_some, Addr.add_lit]
 ·rw [List.length_drop] at hj
  rw [Nat.add_assoc, hcell (i + j) (by omega)]
  unfold Ru.g
  rw [List.getD_eq_getElem?_getD, List.getD_eq_getElem?_getD, List.getElem?_drop]
theorem Bs.upto (h : Bs w B k A l) (i : Nat) (hi : i <= l.length) : Bs w B k A (l.take i) := fun hl => by
 rw [List.length_take] at hl
 obtain ⟨b, off, e, hb, hcell⟩ := h (by omega)
 refine ⟨b, off, e, hb, fun j hj => ?_⟩
 rw [List.length_take] at hj
 rw [hcell j (by omega)]
 unfold Ru.g
 rw [List.getD_eq_getElem?_getD, List.getD_eq_getElem?_getD, List.getElem?_take, if_pos (by omega)]
end
theorem below_drewN {B : Nat} {a w : World} (h : Below B a w) (n : Nat) : Below B a (w.drewN n) := ⟨h.os, h.tape, h.output, h.size, h.block⟩
namespace Ru
theorem g_drop (l : List Int) (k j : Nat) : g (l.drop k) j = g l (k + j) := by
 unfold g; rw [List.getD_eq_getElem?_getD, List.getD_eq_getElem?_getD, List.getElem?_drop]
theorem g_eq {l : List Int} {k : Nat} (h : k < l.length) : g l k = l[k] := by
 unfold g; rw [List.getD_eq_getElem?_getD, List.getElem?_eq_getElem h]; rfl
theorem take_g {l : List Int} {k : Nat} (h : k < l.length) : l.take (k + 1) = l.take k ++ [g l k] := by
 rw [List.take_succ_eq_append_getElem h, g_eq h]
theorem ne_f {a b : Int} (h : a = b) : (a != b) = false := by simp [h]
theorem ne_t {a b : Int} (h : ¬ a = b) : (a != b) = true := by simp [h]
end Ru
def Made (k : IntKind) (E : TypeId) (l : List Int) (w : World) (e : Ending) (w' : World) : Prop :=
 ∃ v, e = .returned v /\ w'.ownsRow w.heap.size E 1 v l.length (nums k l) /\ Below w.heap.size w w'
theorem one_cell (w : World) (u : Value) {E : TypeId} : ∀ (j : Nat) (x : Value), [u][j]? = some x -> (w.alloc (.cells #[u] E)).cell? ((⟨w.heap.size, 0, none⟩ : Addr).add j) = some x := by
 intro j x hj
 match j, hj with
 | 0, hj => simp only [List.getElem?_cons_zero, Option.some.injEq] at hj; subst hj; simp [Addr.add, go_sem]
theorem made_next {w wr w1 w3 : World} {o : Obj} {k : IntKind} {E : TypeId} {v v' : Value} {ds : List Int} {x : Int} (hown : wr.ownsRow w.heap.size E 1 v ds.length (nums k ds)) (hbel : Below w.heap.size w wr) (hb1 : Below wr.heap.size wr w1)
 (hown3 : w3.ownsRow w.heap.size E 1 v' (ds.length + 1) (nums k ds ++ [.int k x])) (hgrow : (w1.alloc o).grownBy w3 v.ownBlock) :
 w3.ownsRow w.heap.size E 1 v' (ds ++ [x]).length (nums k (ds ++ [x])) /\ Below w.heap.size w w3 := by
 refine ⟨?_, ?_⟩
 ·rw [nums_app, List.length_append]; exact hown3
 ·have hs := hbel.size
  have hs1 := hb1.size
  exact ((hbel.trans (hb1.mono hs)).alloc (by omega) o).grown hgrow (by simp; omega) (fun j hj => (hown.lt j hj).1)
theorem drop_ne {l : List Int} {k : Nat} (h : k < l.length) : l.drop k ≠ [] := fun e => by
 have h2 : (l.drop k).length = 0 := by rw [e]; rfl
 rw [List.length_drop] at h2
 omega
theorem kept_below {w w1 : World} {base B : Nat} {e : TypeId} {size n : Nat} {v : Value} {xs : List Value} (h : w.ownsRow base e size v n xs) (hb : Below B w w1) (hB : w.heap.size <= B) : w1.ownsRow base e size v n xs :=
 h.kept (row := none) ⟨hb.os, hb.tape, hb.output, hb.size, fun k hk _ => hb.block k (by omega)⟩ (by cases v.ownBlock <;> simp)
theorem one_ok {k : IntKind} (x : Int) : ∀ u ∈ [Value.int k x], u.oneCell' = true := by simp [Value.oneCell']
theorem alloc_size {B : Nat} {w : World} (h : B <= w.heap.size) (o : Obj) : B <= (w.alloc o).heap.size := by simp; omega
def Yes (w : World) (e : Ending) (w' : World) : Prop := e = .returned (.bool true) /\ Below w.heap.size w w'
def Told (k : IntKind) (l : List Int) (w : World) (e : Ending) (w' : World) : Prop :=
 ∃ (A : Option Addr) (cap : Nat), e = .returned (.slice A l.length cap) /\ l.length <= cap /\ Bs w' w'.heap.size k A l /\ Below w.heap.size w w'
theorem own_form {w : World} {B : Nat} {k : IntKind} {E : TypeId} {l : List Int} {v : Value} (h : w.ownsRow B E 1 v l.length (nums k l)) : ∃ A cap, v = .slice A l.length cap /\ l.length <= cap /\ Bs w w.heap.size k A l := by
 rcases h.2 with ⟨rfl, h0⟩ | ⟨x, cap, cur, rfl, _, _, hc, _⟩
 ·exact ⟨none, 0, by rw [h0], by omega, fun hl => by omega⟩
 ·exact ⟨_, cap, rfl, hc, Bs.of_own h⟩
theorem told {k : IntKind} {E : TypeId} {l : List Int} {w : World} {e : Ending} {w' : World} (h : Made k E l w e w') : Told k l w e w' := by
 obtain ⟨v, rfl, hown, hb⟩ := h
 obtain ⟨A, cap, rfl, hc, hB⟩ := own_form hown
 exact ⟨A, cap, rfl, hc, hB, hb⟩
theorem below_next {w w1 w2 : World} (h : Below w.heap.size w w1) (h2 : Below w1.heap.size w1 w2) : Below w.heap.size w w2 := h.trans (h2.mono h.size)
theorem Bs.next {w w1 : World} {k : IntKind} {A : Option Addr} {l : List Int} (h : Bs w w.heap.size k A l) (hb : Below w.heap.size w w1) : Bs w1 w1.heap.size k A l := (h.below hb).more hb.size
def Sg (t : ByteArray) (w : World) (e : Ending) (w' : World) : Prop := e = .returned (.string t) /\ Below w.heap.size w w'
def Bo (b : Bool) (w : World) (e : Ending) (w' : World) : Prop := e = .returned (.bool b) /\ Below w.heap.size w w'
theorem str_ext {a b : ByteArray} (h : a.toList = b.toList) : a = b := by
 rw [Lib.toList_data, Lib.toList_data] at h
 obtain ⟨⟨l⟩⟩ := a
 obtain ⟨⟨m⟩⟩ := b
 simp only at h
 rw [h]
theorem str_test (t : ByteArray) (c : UInt8) : (t.toList == [c]) = decide (t = ⟨#[c]⟩) := by
 rw [Bool.eq_iff_iff, beq_iff_eq, decide_eq_true_iff]
 constructor
 ·intro e
  exact str_ext (by rw [e, Lib.toList_data])
 ·rintro rfl; rw [Lib.toList_data]
theorem str_same (s t : ByteArray) : (s.toList == t.toList) = decide (s = t) := by
 rw [Bool.eq_iff_iff, beq_iff_eq, decide_eq_true_iff]
 exact ⟨str_ext, fun h => by rw [h]⟩
end Go.Proofs.YtllmjggejbdpcaaGreatDoor
