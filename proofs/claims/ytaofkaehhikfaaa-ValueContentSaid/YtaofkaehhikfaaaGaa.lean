/-
  What all texts of a seat share: endings, the rows of the plain types, old cells behind a call that makes memory.
-/
import Derived.Test.YtaofkaehhikfaaaRows
import Derived.WalkKit
import Derived.Below
import Derived.Lib.MinMax
import Derived.Lib.DecodeNEq
import Derived.Lib.RuneBytes
import Derived.WalkSpells
import Derived.WalkLawsBesides
import Derived.Lib.Hide
import Derived.Laws.OwnMore
import Derived.Deep.AppendLies
import Derived.Deep.Draws
import Derived.Deep.QuietTactic
import Derived.BigQuiet
import Derived.LoopTactic
import Derived.OwnWalk
import Derived.Lib.Strings
import Derived.ProofKit
import Derived.OpenShut
import Derived.ShutString
import Derived.ChangeSame
import Derived.Lib.SmallJoins
import Derived.Lib.LaidTab
import Derived.Deep.Slices
import Derived.Deep.SlicePairs
import Derived.Deep.Strs
import Derived.DataShut
set_option maxHeartbeats 16000000
set_option maxRecDepth 100000
namespace Go.Proofs.Ytaofkaehhikfaaa
open Go.RowKit
theorem ret_int {k : IntKind} {a b : Int} (h : a = b) : Ending.returned (.int k a) = .returned (.int k b) := by rw [h]
theorem ret_bool {a b : Bool} (h : a = b) : Ending.returned (.bool a) = .returned (.bool b) := by rw [h]
theorem ret_two {k1 k2 : IntKind} {a b c d : Int} (h1 : a = c) (h2 : b = d) : Ending.returned (.tuple #[.int k1 a, .int k2 b]) = .returned (.tuple #[.int k1 c, .int k2 d]) := by rw [h1, h2]
theorem Try.info5 : (Try.prog.info? 5).map (fun i => (i.zero, i.size, i.bytes)) = some (some (.int .u8 0), 1, 1) := by kernel_rfl
theorem Try.info3 : (Try.prog.info? 3).map (fun i => (i.zero, i.size, i.bytes)) = some (some (.int .i64 0), 1, 8) := by kernel_rfl
theorem bcell {W w1 : World} (hb : Below W.heap.size W w1) : (∀ b o, b < W.heap.size -> w1.cell? ⟨b, o, none⟩ = W.cell? ⟨b, o, none⟩) /\ (∀ b o, b < W.heap.size -> w1.frozen? ⟨b, o, none⟩ = W.frozen? ⟨b, o, none⟩) :=
 ⟨fun b o h => hb.cell (p := ⟨b, o, none⟩) h, fun b o h => hb.frozen (p := ⟨b, o, none⟩) h⟩
namespace Tk
abbrev Tok := Int × ByteArray × Int
def cells (ts : List Tok) : List Value := ts.flatMap fun t => [.int .i64 t.1, .string t.2.1, .int .i64 t.2.2]
theorem cells_len (ts : List Tok) : (cells ts).length = ts.length * 3 := by
 unfold cells
 induction ts with
 | nil => rfl
 | cons t ts ih => rw [List.flatMap_cons, List.length_append, ih, List.length_cons]; simp; omega
theorem cells_app (ts us : List Tok) : cells (ts ++ us) = cells ts ++ cells us := by unfold cells; rw [List.flatMap_append]
end Tk
end Go.Proofs.Ytaofkaehhikfaaa
namespace Go.Proofs.Ytaofkaehhikfaaa
namespace Ru
open Go.Lib
def need (a : Int) : Int := if a < 194 then 0 else if a < 224 then 2 else if a < 240 then 3 else if a < 245 then 4 else 0
def lo2 (a : Int) : Int := if a = 224 then 160 else if a = 240 then 144 else 128
def hi2 (a : Int) : Int := if a = 237 then 159 else if a = 244 then 143 else 191
def mm (n : Int) (a b c d : Int) : Int :=
 if need a = 0 then 0
 else if ¬ (1 < n /\ lo2 a <= b /\ b <= hi2 a) then 1
 else if need a = 2 then 2
 else if ¬ (2 < n /\ 128 <= c /\ c <= 191) then 2
 else if need a = 3 then 3
 else if ¬ (3 < n /\ 128 <= d /\ d <= 191) then 3
 else 4
def val (a b c d : Int) : Int :=
 if need a = 2 then a % 32 * 64 + b % 64
 else if need a = 3 then a % 16 * 4096 + b % 64 * 64 + c % 64
 else a % 8 * 262144 + b % 64 * 4096 + c % 64 * 64 + d % 64
def ch (n : Int) (a b c d : Int) : Int :=
 if a < 128 then a else if need a ≠ 0 /\ mm n a b c d = need a then val a b c d else 65533
def wd (n : Int) (a b c d : Int) : Int :=
 if a < 128 then 1 else if mm n a b c d = 0 then 1 else mm n a b c d
theorem need_case (a : Int) : need a = 0 ∨ need a = 2 ∨ need a = 3 ∨ need a = 4 := by unfold need; omega
theorem mm_le (n a b c d : Int) (hn : 1 <= n) : 0 <= mm n a b c d /\ mm n a b c d <= need a /\ mm n a b c d <= n := by
 have h := need_case a
 unfold mm
 repeat' split
 all_goals omega
theorem wd_le (n a b c d : Int) (hn : 1 <= n) : 1 <= wd n a b c d /\ wd n a b c d <= 4 /\ wd n a b c d <= n := by
 have h := mm_le n a b c d hn
 have g := need_case a
 unfold wd
 repeat' split
 all_goals omega
def full (m : Int) (a b c : Int) : Bool :=
 decide ((a < 128 ∨ need a <= m) ∨ (1 < m /\ (b < lo2 a ∨ hi2 a < b)) ∨ (2 < m /\ (c < 128 ∨ 191 < c)))
theorem firstT_ascii {a : Nat} (h : a < 128) : firstT a = 240 := by unfold firstT; rw [if_pos h]
theorem firstT_none {a : Nat} (h : ¬ a < 128) (hn : need (a : Int) = 0) : firstT a = 241 := by
 unfold need at hn
 unfold firstT
 repeat' split
 all_goals first | rfl | (exfalso; revert hn; repeat' split) <;> omega
theorem firstT_some {a : Nat} (hn : need (a : Int) ≠ 0) : firstT a < 240 /\ ((firstT a % 8 : Nat) : Int) = need (a : Int) /\ ((accLo (firstT a / 16) : Nat) : Int) = lo2 (a : Int) /\ ((accHi (firstT a / 16) : Nat) : Int) = hi2 (a : Int) := by
 have hlt : 194 <= a /\ a < 245 := by unfold need at hn; revert hn; repeat' split <;> omega
 have h : (194 <= a /\ a < 224) ∨ a = 224 ∨ ((225 <= a /\ a < 237) ∨ (238 <= a /\ a < 240)) ∨ a = 237 ∨ a = 240 ∨ (241 <= a /\ a < 244) ∨ a = 244 := by omega
 rcases h with h | h | h | h | h | h | h
 ·rw [firstT_C2 h, show accLo (2 / 16) = 128 from rfl, show accHi (2 / 16) = 191 from rfl]; exact ⟨by decide, by unfold need; omega, by unfold lo2; omega, by unfold hi2; omega⟩
 ·rw [firstT_E0 h, show accLo (19 / 16) = 160 from rfl, show accHi (19 / 16) = 191 from rfl]; exact ⟨by decide, by unfold need; omega, by unfold lo2; omega, by unfold hi2; omega⟩
 ·rw [firstT_E1 h, show accLo (3 / 16) = 128 from rfl, show accHi (3 / 16) = 191 from rfl]; exact ⟨by decide, by unfold need; omega, by unfold lo2; omega, by unfold hi2; omega⟩
 ·rw [firstT_ED h, show accLo (35 / 16) = 128 from rfl, show accHi (35 / 16) = 159 from rfl]; exact ⟨by decide, by unfold need; omega, by unfold lo2; omega, by unfold hi2; omega⟩
 ·rw [firstT_F0 h, show accLo (52 / 16) = 144 from rfl, show accHi (52 / 16) = 191 from rfl]; exact ⟨by decide, by unfold need; omega, by unfold lo2; omega, by unfold hi2; omega⟩
 ·rw [firstT_F1 h, show accLo (4 / 16) = 128 from rfl, show accHi (4 / 16) = 191 from rfl]; exact ⟨by decide, by unfold need; omega, by unfold lo2; omega, by unfold hi2; omega⟩
 ·rw [firstT_F4 h, show accLo (68 / 16) = 128 from rfl, show accHi (68 / 16) = 143 from rfl]; exact ⟨by decide, by unfold need; omega, by unfold lo2; omega, by unfold hi2; omega⟩
theorem slow_is (n a b c d s lo hi : Nat) (hs : (s : Int) = need (a : Int)) (h0 : need (a : Int) ≠ 0) (hlo : (lo : Int) = lo2 (a : Int)) (hhi : (hi : Int) = hi2 (a : Int)) :
 (mm n a b c d = need a -> (((slowN n a b c d s lo hi).1 : Nat) : Int) = val a b c d /\ (((slowN n a b c d s lo hi).2 : Nat) : Int) = need a) /\ (mm n a b c d ≠ need a -> slowN n a b c d s lo hi = (65533, 1)) := by
 have hc := need_case (a : Int)
 unfold mm val slowN
 rw [<- hlo, <- hhi]
 rcases hc with hc | hc | hc | hc
 ·exact absurd hc h0
 ·obtain rfl : s = 2 := by omega
  simp only [hc, Int.reduceEq, Nat.reduceLeDiff, if_true, if_false]
  clear hs h0 hc hlo hhi
  constructor
  ·intro hm
   repeat' split at hm
   all_goals try omega
   repeat' split
   all_goals first | (exfalso; omega) | (simp only; omega)
  ·intro hm
   repeat' split at hm
   all_goals try omega
   all_goals
    repeat' split
    all_goals first | rfl | (exfalso; omega)
 ·obtain rfl : s = 3 := by omega
  simp only [hc, Int.reduceEq, Nat.reduceLeDiff, if_true, if_false]
  clear hs h0 hc hlo hhi
  constructor
  ·intro hm
   repeat' split at hm
   all_goals try omega
   repeat' split
   all_goals first | (exfalso; omega) | (simp only; omega)
  ·intro hm
   repeat' split at hm
   all_goals try omega
   all_goals
    repeat' split
    all_goals first | rfl | (exfalso; omega)
 ·obtain rfl : s = 4 := by omega
  simp only [hc, Int.reduceEq, Nat.reduceLeDiff, if_false]
  clear hs h0 hc hlo hhi
  constructor
  ·intro hm
   repeat' split at hm
   all_goals try omega
   repeat' split
   all_goals first | (exfalso; omega) | (simp only; omega)
  ·intro hm
   repeat' split at hm
   all_goals try omega
   all_goals
    repeat' split
    all_goals first | rfl | (exfalso; omega)
theorem decode_is (n a b c d : Nat) (hn : 1 <= n) (ha : a < 256) (hb : b < 256) (hc : c < 256) (hd : d < 256)
 (h : ¬ ((decodeN n a b c d).1 = 65533 /\ (decodeN n a b c d).2 = 1)) :
 (((decodeN n a b c d).1 : Nat) : Int) = ch n a b c d /\ (((decodeN n a b c d).2 : Nat) : Int) = wd n a b c d := by
 by_cases h1 : a < 128
 ·rw [ascii_eq n a b c d (firstT_ascii h1)]
  unfold ch wd
  rw [if_pos (by omega), if_pos (by omega)]
  exact ⟨rfl, rfl⟩
 ·by_cases h2 : need (a : Int) = 0
  ·rw [bad_eq n a b c d ha (firstT_none h1 h2)] at h
   exact absurd ⟨rfl, rfl⟩ h
  ·obtain ⟨f1, f2, f3, f4⟩ := firstT_some h2
   rw [<- slow_eq n a b c d hn hb hc hd f1] at h ⊢
   obtain ⟨g1, g2⟩ := slow_is n a b c d _ _ _ f2 h2 f3 f4
   by_cases hm : mm n a b c d = need a
   ·unfold ch wd
    rw [if_neg (by omega), if_pos ⟨h2, hm⟩, if_neg (by omega), if_neg (by omega), hm]
    exact g1 hm
   ·rw [g2 hm] at h
    exact absurd ⟨rfl, rfl⟩ h
theorem beginning_is (n k a b c d : Nat) (hn : 1 <= n) (ha : a < 256) (hb : b < 256) (hc : c < 256) (hd : d < 256)
 (h : (decodeN n a b c d).1 = 65533 /\ (decodeN n a b c d).2 = 1) (hk : 1 <= k) (hkn : k <= n) (h0 : k = 1 ∨ full k a b c = false) (h1 : k = n ∨ full (k + 1 : Int) a b c = true) :
 (65533 : Int) = ch n a b c d /\ (k : Int) = wd n a b c d := by
 by_cases g1 : a < 128
 ·rw [ascii_eq n a b c d (firstT_ascii g1)] at h
  have := h.1
  simp only at this
  omega
 ·by_cases g2 : need (a : Int) = 0
  ·have hk1 : k = 1 := by
    rcases h0 with h0 | h0
    ·exact h0
    ·unfold full at h0
     have := of_decide_eq_false h0
     omega
   unfold ch wd
   rw [if_neg (by omega), if_neg (by omega), if_neg (by omega)]
   have : mm n a b c d = 0 := by unfold mm; rw [if_pos g2]
   rw [if_pos this]
   omega
  ·obtain ⟨f1, f2, f3, f4⟩ := firstT_some g2
   rw [<- slow_eq n a b c d hn hb hc hd f1] at h
   obtain ⟨e1, e2⟩ := slow_is n a b c d _ _ _ f2 g2 f3 f4
   have hm : mm n a b c d ≠ need a := by
    intro hm
    have := e1 hm
    have hcase := need_case (a : Int)
    omega
   unfold ch wd
   rw [if_neg (by omega), if_neg (by omega), if_neg (by omega)]
   clear e1 e2 h f1 f2 f3 f4
   have hf : ∀ m : Int, full m a b c = true ↔ (((a : Int) < 128 ∨ need a <= m) ∨ (1 < m /\ ((b : Int) < lo2 a ∨ hi2 a < b)) ∨ (2 < m /\ ((c : Int) < 128 ∨ 191 < (c : Int)))) := fun m => by unfold full; exact decide_eq_true_iff
   have h0' : k = 1 ∨ ¬ (((a : Int) < 128 ∨ need a <= k) ∨ (1 < (k : Int) /\ ((b : Int) < lo2 a ∨ hi2 a < b)) ∨ (2 < (k : Int) /\ ((c : Int) < 128 ∨ 191 < (c : Int)))) := h0.imp_right fun h => by rw [<- hf]; simp [h]
   rw [hf] at h1
   have hcase := need_case (a : Int)
   have hmk : mm n a b c d = k := by
    revert hm
    unfold mm
    generalize lo2 (a : Int) = lo at *
    generalize hi2 (a : Int) = hi at *
    generalize need (a : Int) = s at *
    clear hf h0
    intro hm
    repeat' split at hm
    all_goals repeat' split
    all_goals omega
   rw [if_neg (by omega)]
   omega
end Ru
end Go.Proofs.Ytaofkaehhikfaaa
namespace Go.Proofs.Ytaofkaehhikfaaa
namespace Ru
def g (l : List Int) (i : Nat) : Int := l.getD i 0
def chL (l : List Int) : Int := ch l.length (g l 0) (g l 1) (g l 2) (g l 3)
def wdL (l : List Int) : Nat := (wd l.length (g l 0) (g l 1) (g l 2) (g l 3)).toNat
def plain (c : Int) : Int := if c = 13 ∨ c = 12 then 10 else if c = 0 then 65533 else c
def st (l : List Int) : Nat := if chL l = 13 /\ wdL l < l.length /\ g l (wdL l) = 10 then wdL l + 1 else wdL l
def rdF : Nat -> List Int -> List Int
 | 0, _ => []
 | f + 1, l => if l = [] then [] else plain (chL l) :: rdF f (l.drop (st l))
def rd (l : List Int) : List Int := rdF l.length l
def Is (c : Int) : Prop := 0 <= c /\ c <= 1114111 /\ (c < 55296 ∨ 57343 < c)
theorem len_pos {l : List Int} (h : l ≠ []) : 1 <= l.length := by
 cases l with
 | nil => exact absurd rfl h
 | cons => simp
theorem wdL_le {l : List Int} (h : l ≠ []) : 1 <= wdL l /\ wdL l <= 4 /\ wdL l <= l.length := by
 have h1 := len_pos h
 have := wd_le l.length (g l 0) (g l 1) (g l 2) (g l 3) (by omega)
 unfold wdL; omega
theorem wdL_int {l : List Int} (h : l ≠ []) : (wdL l : Int) = wd l.length (g l 0) (g l 1) (g l 2) (g l 3) := by
 have h1 := len_pos h
 have := wd_le l.length (g l 0) (g l 1) (g l 2) (g l 3) (by omega)
 unfold wdL; omega
theorem st_le {l : List Int} (h : l ≠ []) : 1 <= st l /\ st l <= l.length := by
 have := wdL_le h
 unfold st; split <;> omega
theorem rdF_nil (f : Nat) : rdF f [] = [] := by cases f <;> simp [rdF]
theorem rdF_more : ∀ (f : Nat) (l : List Int), l.length <= f -> rdF f l = rd l
 | 0, l, h => by
   have : l = [] := List.eq_nil_of_length_eq_zero (by omega)
   subst this; rfl
 | f + 1, l, h => by
   by_cases hl : l = []
   ·subst hl; simp [rdF_nil, rd]
   ·have h1 := len_pos hl
    have hs := st_le hl
    obtain ⟨m, hm⟩ : ∃ m, l.length = m + 1 := ⟨l.length - 1, by omega⟩
    have hd : (l.drop (st l)).length = l.length - st l := by simp
    unfold rd
    rw [hm]
    unfold rdF
    rw [if_neg hl, if_neg hl, rdF_more f _ (by omega), rdF_more m _ (by omega)]
termination_by f => f
theorem rd_nil : rd [] = [] := rfl
theorem rd_cons {l : List Int} (h : l ≠ []) : rd l = plain (chL l) :: rd (l.drop (st l)) := by
 have h1 := len_pos h
 have hs := st_le h
 obtain ⟨m, hm⟩ : ∃ m, l.length = m + 1 := ⟨l.length - 1, by omega⟩
 have hd : (l.drop (st l)).length = l.length - st l := by simp
 rw [<- rdF_more (m + 1) l (by omega)]
 unfold rdF
 rw [if_neg h, rdF_more m _ (by omega)]
theorem val_is {n a b c d : Int} (ha : 128 <= a) (h0 : need a ≠ 0) (hm : mm n a b c d = need a) : 128 <= val a b c d /\ Is (val a b c d) := by
 have hc := need_case a
 unfold Is
 rcases hc with hc | hc | hc | hc
 ·exact absurd hc h0
 all_goals
  unfold mm at hm
  unfold val
  rw [hc] at hm ⊢
  simp only [Int.reduceEq, if_false, if_true] at hm ⊢
  unfold need at hc
  unfold lo2 hi2 at hm
  repeat' split at hm
  all_goals first | omega | skip
theorem ch_is {n a b c d : Int} (ha : 0 <= a) : Is (ch n a b c d) := by
 unfold ch
 split
 ·unfold Is; omega
 ·split
  ·rename_i h1 h2
   exact (val_is (by omega) h2.1 h2.2).2
  ·unfold Is; omega
theorem plain_is {c : Int} (h : Is c) : Is (plain c) /\ plain c ≠ 0 /\ plain c ≠ 12 /\ plain c ≠ 13 := by
 unfold plain Is at *
 repeat' split
 all_goals omega
theorem wd_13 {n a b c d : Int} (h : ch n a b c d = 13) : wd n a b c d = 1 := by
 unfold ch at h
 unfold wd
 by_cases h1 : a < 128
 ·rw [if_pos h1]
 ·rw [if_neg h1] at h
  split at h
  ·rename_i h2
   have := (val_is (by omega) h2.1 h2.2).1
   omega
  ·omega
def By (l : List Int) : Prop := ∀ c ∈ l, 0 <= c /\ c < 256
theorem By.drop {l : List Int} (h : By l) (k : Nat) : By (l.drop k) := fun c hc => h c (List.mem_of_mem_drop hc)
theorem By.at_ {l : List Int} (h : By l) (i : Nat) : 0 <= g l i /\ g l i < 256 := by
 unfold g
 by_cases hi : i < l.length
 ·rw [List.getD_eq_getElem?_getD, List.getElem?_eq_getElem hi]
  exact h _ (List.getElem_mem hi)
 ·rw [List.getD_eq_getElem?_getD, List.getElem?_eq_none (by omega)]
  exact ⟨by simp, by simp⟩
theorem chL_is {l : List Int} (h : By l) : Is (chL l) := ch_is (h.at_ 0).1
theorem rd_is : ∀ (f : Nat) (l : List Int), By l -> ∀ c ∈ rdF f l, Is c /\ c ≠ 0 /\ c ≠ 12 /\ c ≠ 13
 | 0, _, _ => by intro c hc; simp [rdF] at hc
 | f + 1, l, h => by
   intro c hc
   unfold rdF at hc
   split at hc
   ·simp at hc
   ·rcases List.mem_cons.1 hc with rfl | hc
    ·exact plain_is (chL_is h)
    ·exact rd_is f _ (h.drop _) c hc
theorem rd_len : ∀ (f : Nat) (l : List Int), (rdF f l).length <= l.length
 | 0, _ => by simp [rdF]
 | f + 1, l => by
   unfold rdF
   split
   ·simp
   ·rename_i hl
    have h := rd_len f (l.drop (st l))
    have hs := st_le hl
    rw [List.length_drop] at h
    rw [List.length_cons]
    omega
end Ru
end Go.Proofs.Ytaofkaehhikfaaa
namespace Go.Proofs.Ytaofkaehhikfaaa
namespace Ru
open Go.Lib
theorem g_zero (x : Int) (l : List Int) : g (x :: l) 0 = x := rfl
theorem g_succ (x : Int) (l : List Int) (i : Nat) : g (x :: l) (i + 1) = g l i := rfl
theorem g_none {l : List Int} {i : Nat} (h : l.length <= i) : g l i = 0 := by
 unfold g
 rw [List.getD_eq_getElem?_getD, List.getElem?_eq_none h]; rfl
theorem g_left {a b : List Int} {i : Nat} (h : i < a.length) : g (a ++ b) i = g a i := by
 unfold g
 rw [List.getD_eq_getElem?_getD, List.getD_eq_getElem?_getD, List.getElem?_append_left h]
theorem g_mid {a b : List Int} : g (a ++ b) a.length = g b 0 := by
 unfold g
 rw [List.getD_eq_getElem?_getD, List.getD_eq_getElem?_getD, List.getElem?_append_right (by omega), Nat.sub_self]
theorem enc_one {c : Int} (h0 : 0 <= c) (h1 : c <= 127) (n b d e : Int) : ch n c b d e = c /\ wd n c b d e = 1 := by
 unfold ch wd; rw [if_pos (by omega), if_pos (by omega)]; exact ⟨rfl, rfl⟩
theorem need_two {a : Int} (h : 194 <= a /\ a < 224) : need a = 2 := by unfold need; omega
theorem need_three {a : Int} (h : 224 <= a /\ a < 240) : need a = 3 := by unfold need; omega
theorem need_four {a : Int} (h : 240 <= a /\ a < 245) : need a = 4 := by unfold need; omega
theorem enc_two {c : Int} (h0 : 128 <= c) (h1 : c <= 2047) (n d e : Int) (hn : 2 <= n) : ch n (192 + c / 64) (128 + c % 64) d e = c /\ wd n (192 + c / 64) (128 + c % 64) d e = 2 := by
 have hs := need_two (a := 192 + c / 64) (by omega)
 have hm : mm n (192 + c / 64) (128 + c % 64) d e = 2 := by
  unfold mm lo2 hi2
  rw [hs]
  simp only [Int.reduceEq, if_true, if_false]
  rw [if_neg (by omega)]
 unfold ch wd val
 rw [hm, hs]
 refine ⟨?_, ?_⟩
 ·rw [if_neg (by omega), if_pos (by omega)]
  simp only [Int.reduceEq, if_true, if_false]
  omega
 ·rw [if_neg (by omega), if_neg (by omega)]
theorem enc_three {c : Int} (h : (2048 <= c /\ c < 55296) ∨ (57343 < c /\ c <= 65535)) (n e : Int) (hn : 3 <= n) : ch n (224 + c / 4096) (128 + c / 64 % 64) (128 + c % 64) e = c /\ wd n (224 + c / 4096) (128 + c / 64 % 64) (128 + c % 64) e = 3 := by
 have hs := need_three (a := 224 + c / 4096) (by omega)
 have hm : mm n (224 + c / 4096) (128 + c / 64 % 64) (128 + c % 64) e = 3 := by
  unfold mm lo2 hi2
  rw [hs]
  simp only [Int.reduceEq, if_true, if_false]
  rw [if_neg (by omega), if_neg (by omega)]
 unfold ch wd val
 rw [hm, hs]
 refine ⟨?_, ?_⟩
 ·rw [if_neg (by omega), if_pos (by omega)]
  simp only [Int.reduceEq, if_true, if_false]
  omega
 ·rw [if_neg (by omega), if_neg (by omega)]
theorem enc_four {c : Int} (h0 : 65536 <= c) (h1 : c <= 1114111) (n : Int) (hn : 4 <= n) : ch n (240 + c / 262144) (128 + c / 4096 % 64) (128 + c / 64 % 64) (128 + c % 64) = c /\ wd n (240 + c / 262144) (128 + c / 4096 % 64) (128 + c / 64 % 64) (128 + c % 64) = 4 := by
 have hs := need_four (a := 240 + c / 262144) (by omega)
 have hm : mm n (240 + c / 262144) (128 + c / 4096 % 64) (128 + c / 64 % 64) (128 + c % 64) = 4 := by
  unfold mm lo2 hi2
  rw [hs]
  simp only [Int.reduceEq, if_false]
  rw [if_neg (by omega), if_neg (by omega), if_neg (by omega)]
 unfold ch wd val
 rw [hm, hs]
 refine ⟨?_, ?_⟩
 ·rw [if_neg (by omega), if_pos (by omega)]
  simp only [Int.reduceEq, if_false]
  omega
 ·rw [if_neg (by omega), if_neg (by omega)]
theorem enc_ch {c : Int} (h : Is c) (r : List Int) : chL (encodeRuneZ c ++ r) = c /\ wdL (encodeRuneZ c ++ r) = (encodeRuneZ c).length := by
 unfold Is at h
 unfold wdL chL
 by_cases h1 : c <= 127
 ·rw [encodeRuneZ_one h.1 h1]
  simp only [List.cons_append, List.nil_append, g_zero, g_succ, List.length_cons, List.length_nil]
  obtain ⟨e1, e2⟩ := enc_one h.1 h1 ((r.length + 1 : Nat) : Int) (g r 0) (g r 1) (g r 2)
  rw [e2]
  exact ⟨e1, rfl⟩
 ·by_cases h2 : c <= 2047
  ·rw [encodeRuneZ_two (by omega) h2]
   simp only [List.cons_append, List.nil_append, g_zero, g_succ, List.length_cons, List.length_nil]
   obtain ⟨e1, e2⟩ := enc_two (by omega) h2 ((r.length + 1 + 1 : Nat) : Int) (g r 0) (g r 1) (by omega)
   rw [e2]
   exact ⟨e1, rfl⟩
  ·by_cases h3 : c <= 65535
   ·rw [encodeRuneZ_three (by omega)]
    simp only [List.cons_append, List.nil_append, g_zero, g_succ, List.length_cons, List.length_nil]
    obtain ⟨e1, e2⟩ := enc_three (c := c) (by omega) ((r.length + 1 + 1 + 1 : Nat) : Int) (g r 0) (by omega)
    rw [e2]
    exact ⟨e1, rfl⟩
   ·rw [encodeRuneZ_four (by omega) (by omega)]
    simp only [List.cons_append, List.nil_append, g_zero, g_succ, List.length_cons, List.length_nil]
    obtain ⟨e1, e2⟩ := enc_four (c := c) (by omega) (by omega) ((r.length + 1 + 1 + 1 + 1 : Nat) : Int) (by omega)
    rw [e2]
    exact ⟨e1, rfl⟩
theorem rd_enc : ∀ (l : List Int), (∀ c ∈ l, Is c /\ c ≠ 0 /\ c ≠ 12 /\ c ≠ 13) -> rd (l.flatMap encodeRuneZ) = l
 | [], _ => rfl
 | c :: t, h => by
   obtain ⟨h1, h2, h3, h4⟩ := h c (by simp)
   have ih := rd_enc t (fun x hx => h x (by simp [hx]))
   obtain ⟨e1, e2⟩ := enc_ch h1 (t.flatMap encodeRuneZ)
   have hl := encodeRuneZ_length c
   have hne : encodeRuneZ c ++ t.flatMap encodeRuneZ ≠ [] := fun hn => by
    have : (encodeRuneZ c ++ t.flatMap encodeRuneZ).length = 0 := by rw [hn]; rfl
    rw [List.length_append] at this
    omega
   rw [List.flatMap_cons, rd_cons hne]
   have hst : st (encodeRuneZ c ++ t.flatMap encodeRuneZ) = (encodeRuneZ c).length := by
    unfold st
    rw [if_neg (by rw [e1]; exact fun hh => h4 hh.1), e2]
   have hp : plain c = c := by unfold plain; rw [if_neg (by omega), if_neg h2]
   rw [hst, e1, hp, List.drop_left, ih]
theorem mm_parts {n k a b c d b' c' d' : Int} (hn : 1 <= n) (hk : 0 < k) (h1 : 1 < n -> b' = b) (h2 : 2 < n -> c' = c) (h3 : 3 < n -> d' = d)
 (g1 : n = 1 -> b' < 128) (g2 : n = 2 -> c' < 128) (g3 : n = 3 -> d' < 128) : mm (n + k) a b' c' d' = mm n a b c d := by
 have hl : 128 <= lo2 a := by unfold lo2; omega
 unfold mm
 by_cases c1 : n = 1
 ·subst c1
  have := g1 rfl
  split
  ·rfl
  ·rw [if_pos (by omega), if_pos (by omega)]
 ·rw [h1 (by omega)]
  by_cases c2 : n = 2
  ·subst c2
   have := g2 rfl
   repeat' split
   all_goals first | rfl | omega
  ·rw [h2 (by omega)]
   by_cases c3 : n = 3
   ·subst c3
    have := g3 rfl
    repeat' split
    all_goals first | rfl | omega
   ·rw [h3 (by omega)]
    repeat' split
    all_goals first | rfl | omega
theorem val_parts {n a b c d b' c' d' : Int} (h1 : 1 < n -> b' = b) (h2 : 2 < n -> c' = c) (h3 : 3 < n -> d' = d) (hn : need a <= n) (h0 : need a ≠ 0) : val a b' c' d' = val a b c d := by
 have hc := need_case a
 unfold val
 rcases hc with hc | hc | hc | hc
 ·exact absurd hc h0
 ·rw [hc, h1 (by omega)]; rfl
 ·rw [hc, h1 (by omega), h2 (by omega)]; rfl
 ·rw [hc, h1 (by omega), h2 (by omega), h3 (by omega)]
theorem parts_ch {a b : List Int} (ha : a ≠ []) (hb : b ≠ []) (h : g b 0 < 128) : chL (a ++ b) = chL a /\ wdL (a ++ b) = wdL a := by
 have la := len_pos ha
 have lb := len_pos hb
 have e0 : g (a ++ b) 0 = g a 0 := g_left (by omega)
 have e1 : (1 : Int) < a.length -> g (a ++ b) 1 = g a 1 := fun h => g_left (by omega)
 have e2 : (2 : Int) < a.length -> g (a ++ b) 2 = g a 2 := fun h => g_left (by omega)
 have e3 : (3 : Int) < a.length -> g (a ++ b) 3 = g a 3 := fun h => g_left (by omega)
 have m1 : (a.length : Int) = 1 -> g (a ++ b) 1 < 128 := fun e => by
  have : a.length = 1 := by omega
  rw [<- this, g_mid]; exact h
 have m2 : (a.length : Int) = 2 -> g (a ++ b) 2 < 128 := fun e => by
  have : a.length = 2 := by omega
  rw [<- this, g_mid]; exact h
 have m3 : (a.length : Int) = 3 -> g (a ++ b) 3 < 128 := fun e => by
  have : a.length = 3 := by omega
  rw [<- this, g_mid]; exact h
 have hmm := mm_parts (n := a.length) (k := b.length) (a := g a 0) (by omega) (by omega) e1 e2 e3 m1 m2 m3
 have hle := mm_le a.length (g a 0) (g a 1) (g a 2) (g a 3) (by omega)
 have hlen : ((a ++ b).length : Int) = a.length + b.length := by simp
 unfold chL wdL ch wd
 rw [hlen, e0, hmm]
 constructor
 ·split
  ·rfl
  ·split
   ·rename_i h1 h2
    exact val_parts e1 e2 e3 (by omega) h2.1
   ·rfl
 ·rfl
theorem parts_st {a b : List Int} (ha : a ≠ []) (hb : b ≠ []) (h : g b 0 < 128) (h10 : g b 0 ≠ 10) : st (a ++ b) = st a := by
 obtain ⟨e1, e2⟩ := parts_ch ha hb h
 have hw := wdL_le ha
 have lb := len_pos hb
 unfold st
 rw [e1, e2, List.length_append]
 by_cases hc : wdL a < a.length
 ·rw [g_left hc]
  have : wdL a < a.length + b.length := by omega
  simp only [hc, this, true_and]
 ·have he : wdL a = a.length := by omega
  rw [he, g_mid, if_neg (fun hh => h10 hh.2.2), if_neg (fun hh => by omega)]
theorem rd_parts (b : List Int) (hb : b ≠ []) (h : g b 0 < 128) (h10 : g b 0 ≠ 10) : ∀ (f : Nat) (a : List Int), a.length <= f -> rd (a ++ b) = rd a ++ rd b
 | 0, a, hf => by
   have : a = [] := List.eq_nil_of_length_eq_zero (by omega)
   subst this; simp [rd_nil]
 | f + 1, a, hf => by
   by_cases ha : a = []
   ·subst ha; simp [rd_nil]
   ·have hs := st_le ha
    have la := len_pos ha
    have hne : a ++ b ≠ [] := by simp [ha]
    rw [rd_cons hne, rd_cons ha, (parts_ch ha hb h).1, parts_st ha hb h h10, List.drop_append_of_le_length hs.2, rd_parts b hb h h10 f _ (by rw [List.length_drop]; omega)]
    rfl
end Ru
end Go.Proofs.Ytaofkaehhikfaaa
namespace Go.Proofs.Ytaofkaehhikfaaa
open Go.RowKit
namespace Ru
def isB (c : Int) : Bool := decide (0 <= c /\ c <= 1114111 /\ (c < 55296 ∨ 57343 < c))
def letB (c : Int) : Bool := decide ((97 <= c /\ c <= 122) ∨ (65 <= c /\ c <= 90))
def digB (c : Int) : Bool := decide (48 <= c /\ c <= 57)
def whiB (c : Int) : Bool := decide (c = 9 ∨ c = 10 ∨ c = 32)
def begB (c : Int) : Bool := decide (((97 <= c /\ c <= 122) ∨ (65 <= c /\ c <= 90)) ∨ c = 95 ∨ (128 <= c /\ (0 <= c /\ c <= 1114111 /\ (c < 55296 ∨ 57343 < c))))
def witB (c : Int) : Bool := begB c || decide ((48 <= c /\ c <= 57) ∨ c = 45)
def hexV (c : Int) : Int := if 48 <= c /\ c <= 57 then c - 48 else if 97 <= c /\ c <= 102 then c - 87 else if 65 <= c /\ c <= 70 then c - 55 else -1
theorem isB_iff {c : Int} : isB c = true ↔ Is c := by unfold isB Is; exact decide_eq_true_iff
theorem eq_f {a b : Int} (h : ¬ a = b) : (a == b) = false := by rw [beq_eq_false_iff_ne]; exact h
theorem eq_t {a b : Int} (h : a = b) : (a == b) = true := by rw [beq_iff_eq]; exact h
end Ru
def nums (k : IntKind) (l : List Int) : List Value := l.map (Value.int k)
theorem nums_len (k : IntKind) (l : List Int) : (nums k l).length = l.length := by unfold nums; simp
theorem nums_one (k : IntKind) (l : List Int) : ∀ u ∈ nums k l, u.oneCell' = true := by
 intro u hu
 unfold nums at hu
 obtain ⟨x, _, rfl⟩ := List.mem_map.1 hu
 rfl
theorem nums_app (k : IntKind) (a b : List Int) : nums k (a ++ b) = nums k a ++ nums k b := by unfold nums; simp
theorem nums_at {k : IntKind} {l : List Int} {j : Nat} {u : Value} (h : (nums k l)[j]? = some u) : j < l.length /\ u = .int k (Ru.g l j) := by
 unfold nums at h
 rw [List.getElem?_map] at h
 cases hj : l[j]? with
 | none => rw [hj] at h; cases h
 | some x =>
   rw [hj] at h
   have hlt := (List.getElem?_eq_some_iff.1 hj).1
   refine ⟨hlt, ?_⟩
   have : u = .int k x := by simpa using h.symm
   rw [this]
   unfold Ru.g
   rw [List.getD_eq_getElem?_getD, hj]; rfl
theorem nums_get {k : IntKind} {l : List Int} {j : Nat} (h : j < l.length) : (nums k l)[j]? = some (.int k (Ru.g l j)) := by
 unfold nums Ru.g
 rw [List.getElem?_map, List.getElem?_eq_getElem h, List.getD_eq_getElem?_getD, List.getElem?_eq_getElem h]; rfl
def Bs (w : World) (B : Nat) (k : IntKind) (A : Option Addr) (l : List Int) : Prop :=
 0 < l.length -> ∃ b off, A = some ⟨b, off, none⟩ /\ b < B /\ ∀ j, j < l.length -> w.cell? ⟨b, off + j, none⟩ = some (.int k (Ru.g l j))
section
variable {w w' : World} {B B' : Nat} {k : IntKind} {A : Option Addr} {l : List Int}
theorem Bs.nil : Bs w B k A [] := fun h => absurd h (by simp)
theorem Bs.keep (h : Bs w B k A l) (hk : ∀ p : Addr, p.block < B -> w'.cell? p = w.cell? p) : Bs w' B k A l := fun hl => by
 obtain ⟨b, off, e, hb, hc⟩ := h hl
 exact ⟨b, off, e, hb, fun j hj => (hk ⟨b, off + j, none⟩ hb).trans (hc j hj)⟩
theorem Bs.more (h : Bs w B k A l) (hB : B <= B') : Bs w B' k A l := fun hl => by
 obtain ⟨b, off, e, hb, hc⟩ := h hl
 exact ⟨b, off, e, by omega, hc⟩
theorem Bs.below (h : Bs w B k A l) (hb : Below B w w') : Bs w' B k A l := h.keep fun _ hp => hb.cell hp
theorem Bs.grown (h : Bs w B k A l) {row : Option Nat} (hg : w.grownBy w' row) (hB : B <= w.heap.size) (hr : ∀ x, row = some x -> B <= x) : Bs w' B k A l :=
 h.keep fun p hp => World.cell?_of_block (hg.block p.block (by omega) (fun e => by have := hr _ e.symm; omega))
theorem Bs.of_own {base : Nat} {e : TypeId} {c : Nat} (h : w.ownsRow base e 1 (.slice A l.length c) l.length (nums k l)) : Bs w w.heap.size k A l := fun hl => by
 obtain ⟨x, cap, hv, _, hlt⟩ := h.form hl
 have hA : A = some ⟨x, 0, none⟩ := by injection hv
 subst hA
 refine ⟨x, 0, rfl, hlt, fun j hj => ?_⟩
 have := h.cells (g := x) rfl j _ (nums_get (k := k) hj)
 rwa [Addr.add_lit] at this
theorem Bs.from_ (h : Bs w B k A l) {i : Nat} (hi : i <= l.length) (cap : Nat) (hc : l.length <= cap) :
 Bs w B k (if cap = i then A else A.map (·.add i)) (l.drop i) := fun hl => by
 rw [List.length_drop] at hl
 obtain ⟨b, off, rfl, hb, hcell⟩ := h (by omega)
 rw [if_neg (by omega)]
 refine ⟨b, off + i, ?_, hb, fun j hj => ?_⟩
 ·rw [Option.map_some, Addr.add_lit]
 ·rw [List.length_drop] at hj
  rw [Nat.add_assoc, hcell (i + j) (by omega)]
  unfold Ru.g
  rw [List.getD_eq_getElem?_getD, List.getD_eq_getElem?_getD, List.getElem?_drop]
theorem Bs.upto (h : Bs w B k A l) (i : Nat) (hi : i <= l.length) : Bs w B k A (l.take i) := fun hl => by
 rw [List.length_take] at hl
 obtain ⟨b, off, e, hb, hcell⟩ := h (by omega)
 refine ⟨b, off, e, hb, fun j hj => ?_⟩
 rw [List.length_take] at hj
 rw [hcell j (by omega)]
 unfold Ru.g
 rw [List.getD_eq_getElem?_getD, List.getD_eq_getElem?_getD, List.getElem?_take, if_pos (by omega)]
end
theorem below_drewN {B : Nat} {a w : World} (h : Below B a w) (n : Nat) : Below B a (w.drewN n) := ⟨h.os, h.tape, h.output, h.size, h.block⟩
namespace Ru
theorem g_drop (l : List Int) (k j : Nat) : g (l.drop k) j = g l (k + j) := by
 unfold g; rw [List.getD_eq_getElem?_getD, List.getD_eq_getElem?_getD, List.getElem?_drop]
theorem g_eq {l : List Int} {k : Nat} (h : k < l.length) : g l k = l[k] := by
 unfold g; rw [List.getD_eq_getElem?_getD, List.getElem?_eq_getElem h]; rfl
theorem take_g {l : List Int} {k : Nat} (h : k < l.length) : l.take (k + 1) = l.take k ++ [g l k] := by
 rw [List.take_succ_eq_append_getElem h, g_eq h]
theorem eq_of_g {a b : List Int} (h : a.length = b.length) (hg : ∀ j, j < a.length -> g a j = g b j) : a = b := by
 apply List.ext_getElem h
 intro i h1 h2
 rw [<- g_eq h1, <- g_eq h2]
 exact hg i h1
theorem ne_f {a b : Int} (h : a = b) : (a != b) = false := by simp [h]
theorem ne_t {a b : Int} (h : ¬ a = b) : (a != b) = true := by simp [h]
end Ru
def Made (k : IntKind) (E : TypeId) (l : List Int) (w : World) (e : Ending) (w' : World) : Prop :=
 ∃ v, e = .returned v /\ w'.ownsRow w.heap.size E 1 v l.length (nums k l) /\ Below w.heap.size w w'
theorem one_cell (w : World) (u : Value) {E : TypeId} : ∀ (j : Nat) (x : Value), [u][j]? = some x -> (w.alloc (.cells #[u] E)).cell? ((⟨w.heap.size, 0, none⟩ : Addr).add j) = some x := by
 intro j x hj
 match j, hj with
 | 0, hj => simp only [List.getElem?_cons_zero, Option.some.injEq] at hj; subst hj; simp [Addr.add, go_sem]
theorem made_next {w wr w1 w3 : World} {o : Obj} {k : IntKind} {E : TypeId} {v v' : Value} {ds : List Int} {x : Int} (hown : wr.ownsRow w.heap.size E 1 v ds.length (nums k ds)) (hbel : Below w.heap.size w wr) (hb1 : Below wr.heap.size wr w1)
 (hown3 : w3.ownsRow w.heap.size E 1 v' (ds.length + 1) (nums k ds ++ [.int k x])) (hgrow : (w1.alloc o).grownBy w3 v.ownBlock) :
 w3.ownsRow w.heap.size E 1 v' (ds ++ [x]).length (nums k (ds ++ [x])) /\ Below w.heap.size w w3 := by
 refine ⟨?_, ?_⟩
 ·rw [nums_app, List.length_append]; exact hown3
 ·have hs := hbel.size
  have hs1 := hb1.size
  exact ((hbel.trans (hb1.mono hs)).alloc (by omega) o).grown hgrow (by simp; omega) (fun j hj => (hown.lt j hj).1)
theorem drop_ne {l : List Int} {k : Nat} (h : k < l.length) : l.drop k ≠ [] := fun e => by
 have h2 : (l.drop k).length = 0 := by rw [e]; rfl
 rw [List.length_drop] at h2
 omega
theorem kept_below {w w1 : World} {base B : Nat} {e : TypeId} {size n : Nat} {v : Value} {xs : List Value} (h : w.ownsRow base e size v n xs) (hb : Below B w w1) (hB : w.heap.size <= B) : w1.ownsRow base e size v n xs :=
 h.kept (row := none) ⟨hb.os, hb.tape, hb.output, hb.size, fun k hk _ => hb.block k (by omega)⟩ (by cases v.ownBlock <;> simp)
theorem one_ok {k : IntKind} (x : Int) : ∀ u ∈ [Value.int k x], u.oneCell' = true := by simp [Value.oneCell']
theorem alloc_size {B : Nat} {w : World} (h : B <= w.heap.size) (o : Obj) : B <= (w.alloc o).heap.size := by simp; omega
def Yes (w : World) (e : Ending) (w' : World) : Prop := e = .returned (.bool true) /\ Below w.heap.size w w'
def Told (k : IntKind) (l : List Int) (w : World) (e : Ending) (w' : World) : Prop :=
 ∃ (A : Option Addr) (cap : Nat), e = .returned (.slice A l.length cap) /\ l.length <= cap /\ Bs w' w'.heap.size k A l /\ Below w.heap.size w w'
theorem own_form {w : World} {B : Nat} {k : IntKind} {E : TypeId} {l : List Int} {v : Value} (h : w.ownsRow B E 1 v l.length (nums k l)) : ∃ A cap, v = .slice A l.length cap /\ l.length <= cap /\ Bs w w.heap.size k A l := by
 rcases h.2 with ⟨rfl, h0⟩ | ⟨x, cap, cur, rfl, _, _, hc, _⟩
 ·exact ⟨none, 0, by rw [h0], by omega, fun hl => by omega⟩
 ·exact ⟨_, cap, rfl, hc, Bs.of_own h⟩
theorem told {k : IntKind} {E : TypeId} {l : List Int} {w : World} {e : Ending} {w' : World} (h : Made k E l w e w') : Told k l w e w' := by
 obtain ⟨v, rfl, hown, hb⟩ := h
 obtain ⟨A, cap, rfl, hc, hB⟩ := own_form hown
 exact ⟨A, cap, rfl, hc, hB, hb⟩
theorem below_next {w w1 w2 : World} (h : Below w.heap.size w w1) (h2 : Below w1.heap.size w1 w2) : Below w.heap.size w w2 := h.trans (h2.mono h.size)
theorem Bs.next {w w1 : World} {k : IntKind} {A : Option Addr} {l : List Int} (h : Bs w w.heap.size k A l) (hb : Below w.heap.size w w1) : Bs w1 w1.heap.size k A l := (h.below hb).more hb.size
abbrev zTok : Value := .agg #[.int .i64 0, .string ⟨#[]⟩, .int .i64 0]
theorem Try.infoTok : (Try.prog.info? 36).map (fun i => (i.zero, i.size, i.bytes)) = some (some zTok, 3, 32) := by kernel_rfl
theorem three_cell (w : World) (B : Nat) (hB : B = w.heap.size) (a b c : Value) {E : TypeId} : ∀ (j : Nat) (x : Value), [a, b, c][j]? = some x -> (w.alloc (.cells #[a, b, c] E)).cell? ((⟨B, 0, none⟩ : Addr).add j) = some x := by
 intro j x hj
 subst hB
 match j, hj with
 | 0, hj => simp only [List.getElem?_cons_zero, Option.some.injEq] at hj; subst hj; simp [Addr.add, go_sem]
 | 1, hj => simp only [List.getElem?_cons_succ, List.getElem?_cons_zero, Option.some.injEq] at hj; subst hj; simp [Addr.add, go_sem]
 | 2, hj => simp only [List.getElem?_cons_succ, List.getElem?_cons_zero, Option.some.injEq] at hj; subst hj; simp [Addr.add, go_sem]
theorem three_ok (x : Int) (t : ByteArray) (n : Int) : ∀ u ∈ [Value.int .i64 x, .string t, .int .i64 n], u.oneCell' = true := by simp [Value.oneCell']
theorem own_le {w : World} {B C : Nat} {E : TypeId} {m n : Nat} {v : Value} {xs : List Value} (h : w.ownsRow B E m v n xs) (hc : C <= B) : w.ownsRow C E m v n xs := by
 refine ⟨h.1, ?_⟩
 rcases h.2 with h | ⟨x, cap, cur, a, b, c, d, e, f, g⟩
 ·exact .inl h
 ·exact .inr ⟨x, cap, cur, a, Nat.le_trans hc b, c, d, e, f, g⟩
theorem row_slice {w : World} {B : Nat} {E : TypeId} {m n : Nat} {v : Value} {xs : List Value} (h : w.ownsRow B E m v n xs) : ∃ (A : Option Addr) (cap : Nat), v = .slice A n cap /\ n <= cap := by
 rcases h.2 with ⟨rfl, h0⟩ | ⟨x, cap, cur, rfl, _, _, hc, _⟩
 ·exact ⟨none, 0, by rw [h0], by omega⟩
 ·exact ⟨_, cap, rfl, hc⟩
theorem cells_next {ts : List Tk.Tok} {t : Tk.Tok} {w : World} {B : Nat} {E : TypeId} {v : Value} (h : w.ownsRow B E 3 v (ts.length + 1) (Tk.cells ts ++ [.int .i64 t.1, .string t.2.1, .int .i64 t.2.2])) : w.ownsRow B E 3 v (ts ++ [t]).length (Tk.cells (ts ++ [t])) := by
 rw [Tk.cells_app, List.length_append]; exact h
def Toks (ts : List Tk.Tok) (w : World) (e : Ending) (w' : World) : Prop :=
 ∃ v, e = .returned (.tuple #[v, .int .i64 0]) /\ w'.ownsRow w.heap.size 36 3 v ts.length (Tk.cells ts) /\ Below w.heap.size w w'
namespace Tk
def tk (ts : List Tok) (j : Nat) : Tok := ts.getD j (0, ⟨#[]⟩, 0)
theorem tk_eq {ts : List Tok} {j : Nat} (h : j < ts.length) : tk ts j = ts[j] := by
 unfold tk; rw [List.getD_eq_getElem?_getD, List.getElem?_eq_getElem h]; rfl
theorem cells_at : ∀ (ts : List Tok) (j : Nat), j < ts.length -> (cells ts)[j * 3]? = some (.int .i64 (tk ts j).1) /\ (cells ts)[j * 3 + 1]? = some (.string (tk ts j).2.1) /\ (cells ts)[j * 3 + 2]? = some (.int .i64 (tk ts j).2.2)
 | [], j, h => by simp at h
 | t :: ts, 0, _ => ⟨rfl, rfl, rfl⟩
 | t :: ts, j + 1, h => by
   have ih := cells_at ts j (by simp at h; omega)
   have e : cells (t :: ts) = [.int .i64 t.1, .string t.2.1, .int .i64 t.2.2] ++ cells ts := rfl
   have e2 : tk (t :: ts) (j + 1) = tk ts j := rfl
   rw [e, e2]
   refine ⟨?_, ?_, ?_⟩
   ·rw [List.getElem?_append_right (by simp; omega)]
    rw [show (j + 1) * 3 - [Value.int .i64 t.1, .string t.2.1, .int .i64 t.2.2].length = j * 3 by simp; omega]; exact ih.1
   ·rw [List.getElem?_append_right (by simp; omega)]
    rw [show (j + 1) * 3 + 1 - [Value.int .i64 t.1, .string t.2.1, .int .i64 t.2.2].length = j * 3 + 1 by simp; omega]; exact ih.2.1
   ·rw [List.getElem?_append_right (by simp; omega)]
    rw [show (j + 1) * 3 + 2 - [Value.int .i64 t.1, .string t.2.1, .int .i64 t.2.2].length = j * 3 + 2 by simp; omega]; exact ih.2.2
end Tk
def Ts (w : World) (B : Nat) (A : Option Addr) (ts : List Tk.Tok) : Prop :=
 0 < ts.length -> ∃ b off, A = some ⟨b, off, none⟩ /\ b < B /\ ∀ j, j < ts.length -> w.cell? ⟨b, off + j * 3, none⟩ = some (.int .i64 (Tk.tk ts j).1) /\ w.cell? ⟨b, off + j * 3 + 1, none⟩ = some (.string (Tk.tk ts j).2.1) /\ w.cell? ⟨b, off + j * 3 + 2, none⟩ = some (.int .i64 (Tk.tk ts j).2.2)
section
variable {w w' : World} {B B' : Nat} {A : Option Addr} {ts : List Tk.Tok}
theorem Ts.keep (h : Ts w B A ts) (hk : ∀ p : Addr, p.block < B -> w'.cell? p = w.cell? p) : Ts w' B A ts := fun hl => by
 obtain ⟨b, off, e, hb, hc⟩ := h hl
 refine ⟨b, off, e, hb, fun j hj => ?_⟩
 obtain ⟨h0, h1, h2⟩ := hc j hj
 exact ⟨(hk ⟨b, _, none⟩ hb).trans h0, (hk ⟨b, _, none⟩ hb).trans h1, (hk ⟨b, _, none⟩ hb).trans h2⟩
theorem Ts.more (h : Ts w B A ts) (hB : B <= B') : Ts w B' A ts := fun hl => by
 obtain ⟨b, off, e, hb, hc⟩ := h hl
 exact ⟨b, off, e, by omega, hc⟩
theorem Ts.below (h : Ts w B A ts) (hb : Below B w w') : Ts w' B A ts := h.keep fun _ hp => hb.cell hp
theorem Ts.next (h : Ts w w.heap.size A ts) (hb : Below w.heap.size w w') : Ts w' w'.heap.size A ts := (h.below hb).more hb.size
theorem Ts.of_own {base : Nat} {e : TypeId} {c : Nat} (h : w.ownsRow base e 3 (.slice A ts.length c) ts.length (Tk.cells ts)) : Ts w w.heap.size A ts := fun hl => by
 obtain ⟨x, cap, hv, _, hlt⟩ := h.form hl
 have hA : A = some ⟨x, 0, none⟩ := by injection hv
 subst hA
 refine ⟨x, 0, rfl, hlt, fun j hj => ?_⟩
 obtain ⟨h0, h1, h2⟩ := Tk.cells_at ts j hj
 have c := h.cells (g := x) rfl
 have g0 := c _ _ h0
 have g1 := c _ _ h1
 have g2 := c _ _ h2
 rw [Addr.add_lit] at g0 g1 g2
 exact ⟨g0, g1, g2⟩
end
def Told3 (ts : List Tk.Tok) (w : World) (e : Ending) (w' : World) : Prop :=
 ∃ (A : Option Addr) (cap : Nat), e = .returned (.tuple #[.slice A ts.length cap, .int .i64 0]) /\ ts.length <= cap /\ Ts w' w'.heap.size A ts /\ Below w.heap.size w w'
theorem told3 {ts : List Tk.Tok} {w : World} {e : Ending} {w' : World} (h : Toks ts w e w') : Told3 ts w e w' := by
 obtain ⟨v, he, ho, hb⟩ := h
 obtain ⟨A, cap, rfl, hc⟩ := row_slice ho
 exact ⟨A, cap, he, hc, Ts.of_own ho, hb⟩
def Sg (t : ByteArray) (w : World) (e : Ending) (w' : World) : Prop := e = .returned (.string t) /\ Below w.heap.size w w'
def Bo (b : Bool) (w : World) (e : Ending) (w' : World) : Prop := e = .returned (.bool b) /\ Below w.heap.size w w'
theorem str_ext {a b : ByteArray} (h : a.toList = b.toList) : a = b := by
 rw [Lib.toList_data, Lib.toList_data] at h
 obtain ⟨⟨l⟩⟩ := a
 obtain ⟨⟨m⟩⟩ := b
 simp only at h
 rw [h]
theorem str_test (t : ByteArray) (c : UInt8) : (t.toList == [c]) = decide (t = ⟨#[c]⟩) := by
 rw [Bool.eq_iff_iff, beq_iff_eq, decide_eq_true_iff]
 constructor
 ·intro e
  exact str_ext (by rw [e, Lib.toList_data])
 ·rintro rfl; rw [Lib.toList_data]
theorem one_ne {a c : UInt8} (h : a ≠ c) : (⟨#[a]⟩ : ByteArray) ≠ ⟨#[c]⟩ := fun e => h (by injection e with e; injection e with e; injection e with e)
theorem str_same (s t : ByteArray) : (s.toList == t.toList) = decide (s = t) := by
 rw [Bool.eq_iff_iff, beq_iff_eq, decide_eq_true_iff]
 exact ⟨str_ext, fun h => by rw [h]⟩
abbrev zeroTok : Obj := .cells #[.int .i64 0, .string ⟨#[]⟩, .int .i64 0] 36
def tokV (kind : Int) (t : ByteArray) (n : Int) : Value := .agg #[.int .i64 kind, .string t, .int .i64 n]
def I64 (n : Int) : Prop := -9223372036854775808 <= n /\ n <= 9223372036854775807
theorem tok3_cells {w : World} {k : Nat} {x0 x1 x2 : Value} {E : TypeId} (h : w.heap[k]? = some (.cells #[x0, x1, x2] E (0, 0))) :
 w.cell? ⟨k, 0, none⟩ = some x0 /\ w.cell? ⟨k, 1, none⟩ = some x1 /\ w.cell? ⟨k, 2, none⟩ = some x2 := by
 refine ⟨?_, ?_, ?_⟩ <;> simp [World.cell?, h]
theorem below_block {w w1 : World} {k : Nat} {o : Obj} (hb : Below w.heap.size w w1) (h : w.heap[k]? = some o) : w1.heap[k]? = some o := by
 have hlt : k < w.heap.size := by
  by_cases c : k < w.heap.size
  ·exact c
  ·rw [Array.getElem?_eq_none (by omega)] at h; cases h
 exact (hb.block k hlt).trans h
namespace Pr
open Tk
def Fair (us : List Tok) : Prop := us.length <= 100 /\ ∀ j, j < us.length -> (tk us j).2.1.size <= 100
def Wf (us : List Tok) : Prop := ∀ j, j < us.length -> I64 (tk us j).1 /\ I64 (tk us j).2.2
end Pr
end Go.Proofs.Ytaofkaehhikfaaa
namespace Go.Proofs.Ytaofkaehhikfaaa
open Go.Lib
open Go.ChangeShapes Go.WideShapes Go.ChangeAt Go.RowKit Go.WideMaps Go.WideElems
section
variable {H : Type} {enc : TypeId × Value -> H} {P : Program}
theorem open_nums {t e : TypeId} {k : IntKind} {W : World} {base : Nat} {v : Value} {d : DataW H} {p : List MemPlace} (ht : P.underlying t = some (.slice e)) (he : P.underlying e = some (.int k)) (hc : P.cellsOf e = 1)
 (hval : Value.okWide P W .any base t v) (h : DataW.Trod enc P W 0 (fun _ => true) true t v d p) :
 ∃ (A : Option Addr) (cap : Nat) (l : List Int), v = .slice A l.length cap /\ l.length <= cap /\ Bs W W.heap.size k A l /\ (∀ x ∈ l, (Lit.int k x).wf = true) /\
   ∀ W', Below W.heap.size W W' -> ∀ sp : Nat -> Bool, (∀ x ∈ p, sp x.block = true) -> DataW.Trod enc P W' 0 sp true t v d p := by
 obtain ⟨a1, len, cap, rfl⟩ := okWide_slice ht hval
 obtain ⟨fuel, hf⟩ := h
 rcases open_ints ht he hc hf with ⟨hcs, hx⟩ | ⟨a, len', cap', zs, hcs, _, hl, hm, hz, hx, hcell, hwz⟩
 ·simp [Value.cells] at hcs
  obtain ⟨rfl, rfl, rfl⟩ := hcs
  refine ⟨none, 0, [], rfl, Nat.le_refl _, Bs.nil, (fun x hx => by cases hx), fun W' _ sp _ => ?_⟩
  simp only [Prod.mk.injEq] at hx
  obtain ⟨rfl, rfl⟩ := hx
  exact shut_slice_nil ht
 ·simp [Value.cells] at hcs
  obtain ⟨rfl, rfl, rfl⟩ := hcs
  simp only [Prod.mk.injEq] at hx
  obtain ⟨rfl, rfl⟩ := hx
  simp only [if_true] at hz
  have hlen : (zs.take len).length = len := by rw [List.length_take]; omega
  have hblk : 0 < zs.length -> a.block < W.heap.size /\ a.spot = none := fun h => by
   have h0 := hcell 0 h
   exact ⟨by simpa [Addr.add] using World.block_lt_of_cell? W _ h0, by simpa [Addr.add] using World.cell?_spot h0⟩
  refine ⟨some a, cap, zs.take len, by rw [hlen], by rw [hlen]; omega, fun hl0 => ?_, fun x hx => hwz x (List.mem_of_mem_take hx), fun W' hb sp hsp => ?_⟩
  ·obtain ⟨b, off, spot⟩ := a
   have hh := hblk (by omega)
   have hs : spot = none := hh.2
   subst hs
   refine ⟨b, off, rfl, hh.1, fun j hj => ?_⟩
   rw [hlen] at hj
   have := hcell j (by omega)
   rw [Addr.add_lit] at this
   rw [this]
   unfold Ru.g
   rw [List.getD_eq_getElem?_getD, List.getD_eq_getElem?_getD, List.getElem?_take, if_pos hj]
  ·by_cases hz0 : zs.length = 0
   ·have hc0 : cap = 0 := by omega
    have hl0 : len = 0 := by omega
    subst hc0
    subst hl0
    have t0 := shut_ints (enc := enc) (P := P) (w := W') (base := 0) (spare := sp) (held := true) (a := a) (len := 0) (cap := 0) (zs := zs) 0 ht he hc (Nat.zero_le _) (Nat.le_refl _) hm (by simp [hz0]) (fun i hi => by omega) hwz
    exact ⟨2, by simpa [Value.cells] using t0⟩
   ·have hspb : sp a.block = true := hsp (.cell a.block a.off) (MemPlace.mem_row.2 ⟨0, by omega, by simp⟩)
    have hcell' : ∀ i, i < zs.length -> W'.cell? (a.add i) = some (.int k (zs.getD i 0)) := fun i hi => by
     rw [hb.cell (by rw [block_add]; exact (hblk (by omega)).1)]
     exact hcell i hi
    have t0 := shut_ints (enc := enc) (P := P) (w := W') (base := 0) (spare := sp) (held := true) (a := a) (len := len) (cap := cap) (zs := zs) 0 ht he hc (Nat.zero_le _) hl hm (by simp [hspb, hz]) hcell' hwz
    exact ⟨2, by simpa [Value.cells] using t0⟩
theorem post_of_below {f : Func} {s : ChangeSpec} {apart fresh handsOn : Bool} {W W' : World} {args : Array Value} {v : Value} {ds gs : List (DataW H)} {before pa pv : List MemPlace}
 (hW : DataW.Whole enc P f.params.toList s.vars apart W args.toList ds gs before)
 (hres : ∀ (b : Nat) (sp : Nat -> Bool) (hd : Bool), DataW.TrodAll enc P W' b sp hd f.resultTypes.toList (v.resultList f.resultTypes.size) (s.fn H (ds ++ gs)).results [])
 (hargs : ∀ sp : Nat -> Bool, (∀ p ∈ before, sp p.block = true) -> DataW.TrodAll enc P W' 0 sp true f.params.toList args.toList (s.fn H (ds ++ gs)).args pa)
 (hvars : ∀ sp : Nat -> Bool, (∀ p ∈ before, sp p.block = true) -> DataW.TrodVars enc P W' sp s.vars (s.fn H (ds ++ gs)).vars pv)
 (hb : Below W.heap.size W W') : s.post enc P f apart fresh handsOn false W args v W' := by
 have hlt : ∀ p ∈ before, p.block < W.heap.size := fun p hp => hW.lt p hp
 have hold : ∀ p ∈ before, (fun b => decide (b < W.heap.size)) p.block = true := fun p hp => by simpa using hlt p hp
 exact ⟨ds, gs, before, [], pa, pv, hW, hres _ _ _, hargs _ hold, hvars _ hold, hb.frame _, fun h => by cases h⟩
end
theorem by_wf {l : List Int} (h : ∀ x ∈ l, (Lit.int .u8 x).wf = true) : Ru.By l := fun c hc => by
 have : 0 <= c /\ c <= 255 := by simpa [Lit.wf, IntKind.min, IntKind.max, IntKind.signed, IntKind.bits] using h c hc
 omega
theorem u8_wf {c : Int} (h : (Lit.int .u8 c).wf = true) : 0 <= c /\ c <= 255 := by
 have : 0 <= c /\ c <= 255 := by simpa [Lit.wf, IntKind.min, IntKind.max, IntKind.signed, IntKind.bits] using h
 exact this
end Go.Proofs.Ytaofkaehhikfaaa
namespace Go.Proofs.Ytaofkaehhikfaaa
open Go.Lib Go.Joins Go.Deep
open Go.ChangeShapes Go.WideShapes Go.ChangeAt Go.RowKit Go.WideMaps Go.WideElems
open Go.ChangeMaps (setBlock shut_map_nil open_string shut_string)
section
variable {H : Type} {enc : TypeId × Value -> H}
def tokD (u : Tk.Tok) : DataW H := .agg [.lit (.int .i64 u.1), .lit (.string u.2.1.data.toList), .lit (.int .i64 u.2.2)]
def TokWf (u : Tk.Tok) : Prop := (Lit.int .i64 u.1).wf = true /\ u.2.1.size <= maxLen /\ (Lit.int .i64 u.2.2).wf = true
theorem i64_wf {n : Int} (h : (Lit.int .i64 n).wf = true) : I64 n := by
 simpa [Lit.wf, IntKind.min, IntKind.max, IntKind.signed, IntKind.bits, I64] using h
theorem tok_shut_gen {P : Program} {t : TypeId} {f0 f1 f2 : Field} (hs : P.underlying t = some (.struct #[f0, f1, f2])) (hone : oneCellFields P #[f0, f1, f2] = true) (hC : P.cellsOf t = 3) (i0 : P.underlying f0.type = some (.int .i64)) (i1 : P.underlying f1.type = some .string) (i2 : P.underlying f2.type = some (.int .i64))
 (u : Tk.Tok) {W : World} {base : Nat} {sp : Nat -> Bool} {held : Bool} (h : TokWf u) : ∃ n, DataW.trod enc P W base sp held n t [.int .i64 u.1, .string u.2.1, .int .i64 u.2.2] = some (tokD u, []) := by
 obtain ⟨n, hn⟩ := shut_agg3 (enc := enc) (w := W) (base := base) (spare := sp) (held := held) (v0 := .int .i64 u.1) (v1 := .string u.2.1) (v2 := .int .i64 u.2.2) (y0 := (.lit (.int .i64 u.1), [])) (y1 := (.lit (.string u.2.1.data.toList), [])) (y2 := (.lit (.int .i64 u.2.2), [])) hs hone hC
  ⟨1, trod_int_mk 0 i0 h.1⟩ ⟨1, by simp [DataW.trod, i1, h.2.1]⟩ ⟨1, trod_int_mk 0 i2 h.2.2⟩
 exact ⟨n, by simpa [Value.cells, tokD] using hn⟩
theorem tok_back_gen {P : Program} {t : TypeId} {f0 f1 f2 : Field} (hs : P.underlying t = some (.struct #[f0, f1, f2])) (hone : oneCellFields P #[f0, f1, f2] = true) (hC : P.cellsOf t = 3) (i0 : P.underlying f0.type = some (.int .i64)) (i1 : P.underlying f1.type = some .string) (i2 : P.underlying f2.type = some (.int .i64))
 {W : World} {base : Nat} {sp : Nat -> Bool} {held : Bool} {n : Nat} {cs : List Value} {x : DataW H × List MemPlace} (h : DataW.trod enc P W base sp held n t cs = some x) :
 ∃ u : Tk.Tok, cs = [.int .i64 u.1, .string u.2.1, .int .i64 u.2.2] /\ TokWf u /\ x = (tokD u, []) := by
 obtain ⟨y0, y1, y2, n', rfl, hl, h0, h1, h2⟩ := trod_struct3 hs h
 obtain ⟨o0, k0⟩ := hone_of hone 0 f0 rfl
 obtain ⟨o1, k1⟩ := hone_of hone 1 f1 rfl
 obtain ⟨o2, k2⟩ := hone_of hone 2 f2 rfl
 rw [o0, k0] at h0
 rw [o1, k1] at h1
 rw [o2, k2] at h2
 match cs, hl.trans hC with
 | [a, b, c], _ =>
   obtain ⟨k, e0, rfl, w0⟩ := DataW.trod_int i0 h0
   obtain ⟨s, e1, rfl, w1⟩ := DataW.trod_string i1 h1
   obtain ⟨m, e2, rfl, w2⟩ := DataW.trod_int i2 h2
   refine ⟨(k, s, m), ?_, ⟨w0, w1, w2⟩, rfl⟩
   simp at e0 e1 e2
   rw [e0, e1, e2]
theorem tok_shut (u : Tk.Tok) {W : World} {base : Nat} {sp : Nat -> Bool} {held : Bool} (h : TokWf u) : ∃ n, DataW.trod enc Try.prog W base sp held n 36 [.int .i64 u.1, .string u.2.1, .int .i64 u.2.2] = some (tokD u, []) :=
 tok_shut_gen Try.underlying36 (by kernel_rfl) (by kernel_rfl) Try.underlying3 Try.underlying9 Try.underlying3 u h
theorem tok_back {W : World} {base : Nat} {sp : Nat -> Bool} {held : Bool} {n : Nat} {cs : List Value} {x : DataW H × List MemPlace} (h : DataW.trod enc Try.prog W base sp held n 36 cs = some x) :
 ∃ u : Tk.Tok, cs = [.int .i64 u.1, .string u.2.1, .int .i64 u.2.2] /\ TokWf u /\ x = (tokD u, []) :=
 tok_back_gen Try.underlying36 (by kernel_rfl) (by kernel_rfl) Try.underlying3 Try.underlying9 Try.underlying3 h
instance : Inhabited Tk.Tok := ⟨(0, ⟨#[]⟩, 0)⟩
theorem open_toks {W : World} {base : Nat} {v : Value} {d : DataW H} {p : List MemPlace} (hval : Value.okWide Try.prog W .any base 22 v) (h : DataW.Trod enc Try.prog W 0 (fun _ => true) true 22 v d p) :
 ∃ (A : Option Addr) (cap : Nat) (us : List Tk.Tok), v = .slice A us.length cap /\ us.length <= cap /\ us.length <= 9223372036854775807 /\ Ts W W.heap.size A us /\ Pr.Wf us /\
   ∀ W', Below W.heap.size W W' -> ∀ sp : Nat -> Bool, (∀ x ∈ p, sp x.block = true) -> DataW.Trod enc Try.prog W' 0 sp true 22 v d p := by
 obtain ⟨a1, len, cap, rfl⟩ := okWide_slice Try.underlying22 hval
 obtain ⟨fuel, hf⟩ := h
 rcases open_slice Try.underlying22 hf with ⟨hcs, hx⟩ | ⟨a, len', cap', m, n, D, Pl, hcs, hb, hl, hm, hmm, hx, hi⟩
 ·simp [Value.cells] at hcs
  obtain ⟨rfl, rfl, rfl⟩ := hcs
  simp only [Prod.mk.injEq] at hx
  obtain ⟨rfl, rfl⟩ := hx
  refine ⟨none, 0, [], rfl, Nat.le_refl _, by simp, fun hl => by simp at hl, fun j hj => by simp at hj, fun W' _ sp _ => shut_slice_nil Try.underlying22⟩
 ·simp [Value.cells] at hcs
  obtain ⟨rfl, rfl, rfl⟩ := hcs
  have hC : Try.prog.cellsOf 36 = 3 := by kernel_rfl
  simp only [Prod.mk.injEq] at hx
  obtain ⟨hxd, hxp⟩ := hx
  rw [if_pos rfl] at hmm
  subst hmm
  have hone : ∀ i, i < m -> ∃ u : Tk.Tok, (∀ j x, [Value.int .i64 u.1, .string u.2.1, .int .i64 u.2.2][j]? = some x -> W.cell? ((a.add (i * 3)).add j) = some x) /\ TokWf u /\ D i = tokD u /\ Pl i = [] := fun i him => by
   obtain ⟨cs', hc, ht⟩ := hi i him
   obtain ⟨u, rfl, hw, he⟩ := tok_back ht
   obtain ⟨_, _, hat⟩ := World.cells?_some hc
   simp only [Prod.mk.injEq] at he
   refine ⟨u, fun j x hj => ?_, hw, he.1, he.2⟩
   have hj3 : j < 3 := (List.getElem?_eq_some_iff.1 hj).1
   have := hat j (by rw [hC]; exact hj3)
   rw [hC] at this
   rw [this, hj]
  obtain ⟨U, hU⟩ := choose_lt hone
  have hlen : ((List.range len).map U).length = len := by simp
  have htk : ∀ j, j < len -> Tk.tk ((List.range len).map U) j = U j := fun j hj => by
   rw [Tk.tk_eq (by rw [hlen]; exact hj)]
   simp
  have hblk : 0 < m -> a.block < W.heap.size /\ a.spot = none := fun h => by
   have h0 := (hU 0 h).1 0 _ rfl
   rw [Nat.zero_mul] at h0
   exact ⟨by simpa [Addr.add] using World.block_lt_of_cell? W _ h0, by simpa [Addr.add] using World.cell?_spot h0⟩
  rw [hxd, hxp]
  rw [hxp] at *
  refine ⟨some a, m, (List.range len).map U, by rw [hlen], by rw [hlen]; exact hl, by rw [hlen]; unfold maxLen at hm; omega, fun h0 => ?_, fun j hj => ?_, fun W' hb' sp hsp => ?_⟩
  ·rw [hlen] at h0
   obtain ⟨b, off, spot⟩ := a
   have hh := hblk (by omega)
   have hs : spot = none := hh.2
   subst hs
   refine ⟨b, off, rfl, hh.1, fun j hj => ?_⟩
   rw [hlen] at hj
   rw [htk j hj]
   have hc := (hU j (by omega)).1
   refine ⟨?_, ?_, ?_⟩
   ·have := hc 0 _ rfl
    rw [Addr.add_lit, Addr.add_lit] at this
    exact this
   ·have := hc 1 _ rfl
    rw [Addr.add_lit, Addr.add_lit] at this
    exact this
   ·have := hc 2 _ rfl
    rw [Addr.add_lit, Addr.add_lit] at this
    exact this
  ·rw [hlen] at hj
   rw [htk j hj]
   have := (hU j (by omega)).2.1
   exact ⟨i64_wf this.1, i64_wf this.2.2⟩
  ·by_cases hm0 : m = 0
   ·subst hm0
    have hl0 : len = 0 := by omega
    subst hl0
    have hspf : sp a.block = true ∨ sp a.block = false := by cases sp a.block <;> simp
    rcases hspf with hspt | hspt
    ·exact shut_slice_whole Try.underlying22 hb (Nat.le_refl _) hm hspt D Pl (fun i hi => by omega)
    ·have := shut_slice (enc := enc) (P := Try.prog) (w := W') (held := true) Try.underlying22 hb (Nat.le_refl 0) hm hspt D Pl (fun i hi => by omega)
     simpa using this
   ·have hspb : sp a.block = true := hsp (.cell a.block a.off) (by
     refine List.mem_append.2 (.inl (MemPlace.mem_row.2 ⟨0, ?_, by simp⟩))
     rw [hC]; omega)
    refine shut_slice_whole Try.underlying22 hb hl hm hspb D Pl (fun i hi => ?_)
    obtain ⟨hc, hw, hd, hp⟩ := hU i hi
    obtain ⟨nn, hnn⟩ := tok_shut (enc := enc) (W := W') (base := 0) (sp := sp) (held := true) (U i) hw
    refine ⟨[Value.int .i64 (U i).1, .string (U i).2.1, .int .i64 (U i).2.2], nn, ?_, ?_⟩
    ·rw [hC]
     refine World.cells?_of_each (by rw [block_add]; exact hb) rfl fun j hj => ?_
     have hlt : ((a.add (i * 3)).add j).block < W.heap.size := by rw [block_add, block_add]; exact (hblk (by omega)).1
     rw [hb'.cell hlt]
     have hs : ([Value.int .i64 (U i).1, .string (U i).2.1, .int .i64 (U i).2.2][j]?).isSome := by
      rw [List.getElem?_eq_getElem (by simpa using hj)]; rfl
     obtain ⟨x, hx⟩ := Option.isSome_iff_exists.1 hs
     rw [hc j x hx, hx]
    ·rw [hd, hp]
     exact hnn
theorem open_tok {W : World} {base : Nat} {v : Value} {d : DataW H} {p : List MemPlace} (hval : Value.okWide Try.prog W .any base 36 v) (h : DataW.Trod enc Try.prog W 0 (fun _ => true) true 36 v d p) :
 ∃ u : Tk.Tok, v = tokV u.1 u.2.1 u.2.2 /\ I64 u.1 /\ I64 u.2.2 /\ u.2.1.size <= maxLen /\
   ∀ (W' : World) (b : Nat) (sp : Nat -> Bool) (hd : Bool), DataW.Trod enc Try.prog W' b sp hd 36 v d p := by
 obtain ⟨cs, rfl, hsz⟩ := okWide_struct Try.underlying36 hval
 obtain ⟨fuel, hf⟩ := h
 obtain ⟨u, hc, hw, hx⟩ := tok_back hf
 simp only [Prod.mk.injEq] at hx
 obtain ⟨rfl, rfl⟩ := hx
 have hcs : cs = #[.int .i64 u.1, .string u.2.1, .int .i64 u.2.2] := by
  have h1 : cs.toList = [.int .i64 u.1, .string u.2.1, .int .i64 u.2.2] := by simpa [Value.cells] using hc
  rw [<- Array.toArray_toList (xs := cs), h1]
 subst hcs
 refine ⟨u, rfl, i64_wf hw.1, i64_wf hw.2.2, hw.2.1, fun W' b sp hd => ?_⟩
 obtain ⟨nn, hnn⟩ := tok_shut (enc := enc) (W := W') (base := b) (sp := sp) (held := hd) u hw
 exact ⟨nn, by simpa [Value.cells] using hnn⟩
end
end Go.Proofs.Ytaofkaehhikfaaa
namespace Go.Proofs.Ytaofkaehhikfaaa
namespace Ns
open Tk
def clo (t : Tok) : ByteArray :=
 if t.1 = 3 ∨ (t.1 = 12 /\ t.2.1 = ⟨#[40]⟩) then ⟨#[41]⟩ else if t.1 = 12 /\ t.2.1 = ⟨#[91]⟩ then ⟨#[93]⟩ else if t.1 = 12 /\ t.2.1 = ⟨#[123]⟩ then ⟨#[125]⟩ else ⟨#[]⟩
def isO (t : Tok) : Prop := clo t ≠ ⟨#[]⟩
instance (t : Tok) : Decidable (isO t) := by unfold isO; infer_instance
theorem clo_none {t : Tok} (h : ¬ isO t) : clo t = ⟨#[]⟩ := by unfold isO at h; exact Decidable.of_not_not h
theorem not_O {t : Tok} (h3 : t.1 ≠ 3) (h12 : t.1 ≠ 12) : ¬ isO t := fun h => h (by
 unfold clo
 rw [if_neg (fun h => h.elim h3 (fun h => h12 h.1)), if_neg (fun h => h12 h.1), if_neg (fun h => h12 h.1)])
def top (o : List Nat) : Nat := o.getLastD 0
def closes (ts : List Tok) (o : List Nat) (k : Nat) : Prop := (tk ts k).1 = 13 /\ o ≠ [] /\ clo (tk ts (top o)) = (tk ts k).2.1
instance (ts : List Tok) (o : List Nat) (k : Nat) : Decidable (closes ts o k) := by unfold closes; infer_instance
theorem closes_not {ts : List Tok} {o : List Nat} {k : Nat} (h : closes ts o k) : ¬ isO (tk ts k) := not_O (by rw [h.1]; decide) (by rw [h.1]; decide)
def opn (ts : List Tok) : Nat -> List Nat
 | 0 => []
 | k + 1 => if isO (tk ts k) then opn ts k ++ [k] else if closes ts (opn ts k) k then (opn ts k).dropLast else opn ts k
theorem opn_push {ts : List Tok} {k : Nat} (h : isO (tk ts k)) : opn ts (k + 1) = opn ts k ++ [k] := by rw [opn, if_pos h]
theorem opn_pop {ts : List Tok} {k : Nat} (h : closes ts (opn ts k) k) : opn ts (k + 1) = (opn ts k).dropLast := by rw [opn, if_neg (closes_not h), if_pos h]
theorem opn_keep {ts : List Tok} {k : Nat} (h : ¬ isO (tk ts k)) (h2 : ¬ closes ts (opn ts k) k) : opn ts (k + 1) = opn ts k := by rw [opn, if_neg h, if_neg h2]
theorem opn_lt {ts : List Tok} : ∀ {k x : Nat}, x ∈ opn ts k -> x < k
 | 0, x, h => by simp [opn] at h
 | k + 1, x, h => by
   by_cases h1 : isO (tk ts k)
   ·rw [opn_push h1] at h
    rcases List.mem_append.1 h with h | h
    ·have := opn_lt h; omega
    ·simp at h; omega
   ·by_cases h2 : closes ts (opn ts k) k
    ·rw [opn_pop h2] at h
     have := opn_lt ((List.dropLast_sublist _).subset h); omega
    ·rw [opn_keep h1 h2] at h
     have := opn_lt h; omega
theorem opn_len (ts : List Tok) : ∀ k, (opn ts k).length <= k
 | 0 => by simp [opn]
 | k + 1 => by
   have ih := opn_len ts k
   by_cases h1 : isO (tk ts k)
   ·rw [opn_push h1]; simp; omega
   ·by_cases h2 : closes ts (opn ts k) k
    ·rw [opn_pop h2]; simp; omega
    ·rw [opn_keep h1 h2]; omega
theorem opn_isO {ts : List Tok} : ∀ {k x : Nat}, x ∈ opn ts k -> isO (tk ts x)
 | 0, x, h => by simp [opn] at h
 | k + 1, x, h => by
   by_cases h1 : isO (tk ts k)
   ·rw [opn_push h1] at h
    rcases List.mem_append.1 h with h | h
    ·exact opn_isO h
    ·simp at h; rw [h]; exact h1
   ·by_cases h2 : closes ts (opn ts k) k
    ·rw [opn_pop h2] at h
     exact opn_isO ((List.dropLast_sublist _).subset h)
    ·rw [opn_keep h1 h2] at h
     exact opn_isO h
theorem opn_sorted (ts : List Tok) : ∀ k, (opn ts k).Pairwise (· < ·)
 | 0 => by simp [opn]
 | k + 1 => by
   have ih := opn_sorted ts k
   by_cases h1 : isO (tk ts k)
   ·rw [opn_push h1, List.pairwise_append]
    exact ⟨ih, List.pairwise_singleton _ _, fun a ha b hb => by simp at hb; rw [hb]; exact opn_lt ha⟩
   ·by_cases h2 : closes ts (opn ts k) k
    ·rw [opn_pop h2]; exact ih.sublist (List.dropLast_sublist _)
    ·rw [opn_keep h1 h2]; exact ih
theorem top_mem {o : List Nat} (h : o ≠ []) : top o ∈ o := by
 unfold top
 rw [List.getLastD_eq_getLast?, List.getLast?_eq_some_getLast h]
 exact List.getLast_mem h
theorem drop_top {o : List Nat} (h : o ≠ []) : o = o.dropLast ++ [top o] := by
 unfold top
 rw [List.getLastD_eq_getLast?, List.getLast?_eq_some_getLast h]
 exact (List.dropLast_concat_getLast h).symm
theorem top_out {o : List Nat} (hs : o.Pairwise (· < ·)) (h : o ≠ []) : top o ∉ o.dropLast := fun hm => by
 have e := drop_top h
 rw [e] at hs
 rw [List.pairwise_append] at hs
 have := hs.2.2 _ hm (top o) (by simp)
 omega
theorem top_max {o : List Nat} (hs : o.Pairwise (· < ·)) {x : Nat} (h : x ∈ o) : x <= top o := by
 have hn : o ≠ [] := fun e => by rw [e] at h; cases h
 rw [drop_top hn] at h
 rcases List.mem_append.1 h with h | h
 ·have e := drop_top hn
  rw [e] at hs
  rw [List.pairwise_append] at hs
  exact Nat.le_of_lt (hs.2.2 _ h (top o) (by simp))
 ·simp at h; omega
theorem mem_next {ts : List Tok} {k x : Nat} (hx : x ∈ opn ts k) (h : ¬ (closes ts (opn ts k) k /\ top (opn ts k) = x)) : x ∈ opn ts (k + 1) := by
 by_cases h1 : isO (tk ts k)
 ·rw [opn_push h1]; exact List.mem_append_left _ hx
 ·by_cases h2 : closes ts (opn ts k) k
  ·rw [opn_pop h2]
   have hn : opn ts k ≠ [] := h2.2.1
   rw [drop_top hn] at hx
   rcases List.mem_append.1 hx with hx | hx
   ·exact hx
   ·simp at hx; exact absurd ⟨h2, hx.symm⟩ h
  ·rw [opn_keep h1 h2]; exact hx
theorem mem_prev {ts : List Tok} {k x : Nat} (hx : x ∈ opn ts (k + 1)) (h : x < k) : x ∈ opn ts k := by
 by_cases h1 : isO (tk ts k)
 ·rw [opn_push h1] at hx
  rcases List.mem_append.1 hx with hx | hx
  ·exact hx
  ·simp at hx; omega
 ·by_cases h2 : closes ts (opn ts k) k
  ·rw [opn_pop h2] at hx; exact (List.dropLast_sublist _).subset hx
  ·rw [opn_keep h1 h2] at hx; exact hx
theorem top_gone {ts : List Tok} {k : Nat} (h : closes ts (opn ts k) k) : top (opn ts k) ∉ opn ts (k + 1) := by
 rw [opn_pop h]; exact top_out (opn_sorted ts k) h.2.1
theorem opn_prefix {ts : List Tok} {k : Nat} (hO : isO (tk ts k)) : ∀ j, k <= j -> (k ∈ opn ts (j + 1) -> ∃ r, opn ts (j + 1) = opn ts k ++ k :: r)
 | j, hj, hm => by
   by_cases e : j = k
   ·subst e; exact ⟨[], opn_push hO⟩
   ·match j, hj, hm, e with
    | 0, hj, _, e => omega
    | j + 1, hj, hm, e =>
      have hp := mem_prev hm (by omega)
      obtain ⟨r, hr⟩ := opn_prefix hO j (by omega) hp
      by_cases h1 : isO (tk ts (j + 1))
      ·exact ⟨r ++ [j + 1], by rw [opn_push h1, hr]; simp⟩
      ·by_cases h2 : closes ts (opn ts (j + 1)) (j + 1)
       ·have ht := top_gone h2
        rw [opn_pop h2] at hm ⊢
        rw [hr] at hm ⊢
        rcases List.eq_nil_or_concat r with h0 | ⟨r', x, h0⟩
        ·subst h0
         rw [List.dropLast_concat] at hm
         exact absurd (opn_lt hm) (by omega)
        ·rw [List.concat_eq_append] at h0
         subst h0
         refine ⟨r', ?_⟩
         rw [show opn ts k ++ k :: (r' ++ [x]) = (opn ts k ++ k :: r') ++ [x] by simp, List.dropLast_concat]
       ·exact ⟨r, by rw [opn_keep h1 h2, hr]⟩
theorem stay_iff {ts : List Tok} {k j : Nat} (hO : isO (tk ts k)) (hj : k <= j) : k ∈ opn ts (j + 1) ↔ ((opn ts (k + 1)).length <= (opn ts (j + 1)).length /\ (opn ts (j + 1)).getD ((opn ts (k + 1)).length - 1) 0 = k) := by
 have hl : (opn ts (k + 1)).length = (opn ts k).length + 1 := by rw [opn_push hO]; simp
 rw [hl]
 constructor
 ·intro h
  obtain ⟨r, hr⟩ := opn_prefix hO j hj h
  rw [hr]
  refine ⟨by simp, ?_⟩
  rw [List.getD_eq_getElem?_getD, Nat.add_sub_cancel, List.getElem?_append_right (Nat.le_refl _)]
  simp
 ·intro ⟨h1, h2⟩
  rw [List.getD_eq_getElem?_getD, Nat.add_sub_cancel, List.getElem?_eq_getElem (by omega)] at h2
  rw [<- h2]
  exact List.getElem_mem _
def enF (ts : List Tok) : Nat -> List Int
 | 0 => []
 | k + 1 => if isO (tk ts k) then enF ts k ++ [(ts.length : Int)] else if closes ts (opn ts k) k then (enF ts k).set (top (opn ts k)) (k : Int) ++ [-1] else enF ts k ++ [-1]
theorem enF_push {ts : List Tok} {k : Nat} (h : isO (tk ts k)) : enF ts (k + 1) = enF ts k ++ [(ts.length : Int)] := by rw [enF, if_pos h]
theorem enF_pop {ts : List Tok} {k : Nat} (h : closes ts (opn ts k) k) : enF ts (k + 1) = (enF ts k).set (top (opn ts k)) (k : Int) ++ [-1] := by rw [enF, if_neg (closes_not h), if_pos h]
theorem enF_keep {ts : List Tok} {k : Nat} (h : ¬ isO (tk ts k)) (h2 : ¬ closes ts (opn ts k) k) : enF ts (k + 1) = enF ts k ++ [-1] := by rw [enF, if_neg h, if_neg h2]
theorem enF_len (ts : List Tok) : ∀ k, (enF ts k).length = k
 | 0 => rfl
 | k + 1 => by
   have ih := enF_len ts k
   by_cases h1 : isO (tk ts k)
   ·rw [enF_push h1]; simp [ih]
   ·by_cases h2 : closes ts (opn ts k) k
    ·rw [enF_pop h2]; simp [ih]
    ·rw [enF_keep h1 h2]; simp [ih]
theorem enF_new (ts : List Tok) (k : Nat) : (enF ts (k + 1)).getD k 0 = if isO (tk ts k) then (ts.length : Int) else -1 := by
 have hl := enF_len ts k
 rw [List.getD_eq_getElem?_getD]
 by_cases h1 : isO (tk ts k)
 ·rw [enF_push h1, if_pos h1, List.getElem?_append_right (by omega), hl]; simp
 ·rw [if_neg h1]
  by_cases h2 : closes ts (opn ts k) k
  ·rw [enF_pop h2, List.getElem?_append_right (by simp; omega)]; simp [hl]
  ·rw [enF_keep h1 h2, List.getElem?_append_right (by omega), hl]; simp
theorem enF_old {ts : List Tok} {k x : Nat} (hx : x < k) : (enF ts (k + 1)).getD x 0 = if closes ts (opn ts k) k /\ top (opn ts k) = x then (k : Int) else (enF ts k).getD x 0 := by
 have hl := enF_len ts k
 rw [List.getD_eq_getElem?_getD, List.getD_eq_getElem?_getD]
 by_cases h1 : isO (tk ts k)
 ·rw [enF_push h1, if_neg (fun h => closes_not h.1 h1), List.getElem?_append_left (by omega)]
 ·by_cases h2 : closes ts (opn ts k) k
  ·rw [enF_pop h2, List.getElem?_append_left (by simp; omega), List.getElem?_set]
   by_cases h3 : top (opn ts k) = x
   ·rw [if_pos h3, if_pos (show top (opn ts k) < (enF ts k).length by omega), if_pos ⟨h2, h3⟩]; rfl
   ·rw [if_neg h3, if_neg (fun h => h3 h.2)]
  ·rw [enF_keep h1 h2, if_neg (fun h => h2 h.1), List.getElem?_append_left (by omega)]
theorem enF_open {ts : List Tok} : ∀ {k x : Nat}, x ∈ opn ts k -> (enF ts k).getD x 0 = (ts.length : Int)
 | 0, x, h => by simp [opn] at h
 | k + 1, x, h => by
   by_cases e : x = k
   ·subst e
    rw [enF_new, if_pos (opn_isO h)]
   ·have hx : x < k := by have := opn_lt h; omega
    rw [enF_old hx, if_neg (fun hc => by have := top_gone hc.1; rw [hc.2] at this; exact this h)]
    exact enF_open (mem_prev h hx)
theorem enF_shut {ts : List Tok} {x k : Nat} (hx : x < k) (hn : x ∉ opn ts k) : ∀ {m : Nat}, k <= m -> (enF ts m).getD x 0 = (enF ts k).getD x 0
 | 0, h => by omega
 | m + 1, h => by
   by_cases e : k = m + 1
   ·rw [e]
   ·have hxm : x ∉ opn ts m := by
     have : ∀ d, x ∉ opn ts (k + d) := fun d => by
      induction d with
      | zero => exact hn
      | succ d ih => exact fun hm => ih (mem_prev (k := k + d) hm (by omega))
     have h2 := this (m - k)
     rwa [show k + (m - k) = m by omega] at h2
    rw [enF_old (by omega), if_neg (fun (hc : closes ts (opn ts m) m /\ top (opn ts m) = x) => hxm (hc.2 ▸ top_mem hc.1.2.1))]
    exact enF_shut hx hn (by omega)
theorem enF_at_pop {ts : List Tok} {x k m : Nat} (hc : closes ts (opn ts k) k) (ht : top (opn ts k) = x) (hm : k < m) : (enF ts m).getD x 0 = (k : Int) := by
 have hx : x < k := opn_lt (ht ▸ top_mem hc.2.1)
 have hg := top_gone hc
 rw [ht] at hg
 rw [enF_shut (k := k + 1) (by omega) hg (by omega), enF_old hx, if_pos ⟨hc, ht⟩]
theorem enF_cases {ts : List Tok} : ∀ {k x : Nat}, x < k -> x ∉ opn ts k -> (¬ isO (tk ts x) /\ (enF ts k).getD x 0 = -1) ∨ ∃ j, x < j /\ j < k /\ closes ts (opn ts j) j /\ top (opn ts j) = x /\ (enF ts k).getD x 0 = (j : Int)
 | 0, x, h, _ => by omega
 | k + 1, x, h, hn => by
   by_cases e : x = k
   ·subst e
    have hO : ¬ isO (tk ts x) := fun hO => hn (by rw [opn_push hO]; simp)
    exact .inl ⟨hO, by rw [enF_new, if_neg hO]⟩
   ·have hx : x < k := by omega
    by_cases hc : closes ts (opn ts k) k /\ top (opn ts k) = x
    ·exact .inr ⟨k, hx, by omega, hc.1, hc.2, by rw [enF_old hx, if_pos hc]⟩
    ·have hm : x ∉ opn ts k := fun hm => hn (mem_next hm hc)
     rw [enF_old hx, if_neg hc]
     rcases enF_cases hx hm with h1 | ⟨j, h1, h2, h3⟩
     ·exact .inl h1
     ·exact .inr ⟨j, h1, by omega, h3⟩
def deep (ts : List Tok) : Prop := ∃ k, k < ts.length /\ 64 < (opn ts (k + 1)).length
def ends (ts : List Tok) : List Int := enF ts ts.length
theorem ends_len (ts : List Tok) : (ends ts).length = ts.length := enF_len ts _
theorem ends_range {ts : List Tok} {k : Nat} (hk : k < ts.length) : (¬ isO (tk ts k) /\ (ends ts).getD k 0 = -1) ∨ (isO (tk ts k) /\ (k : Int) < (ends ts).getD k 0 /\ (ends ts).getD k 0 <= ts.length) := by
 unfold ends
 by_cases hm : k ∈ opn ts ts.length
 ·exact .inr ⟨opn_isO hm, by rw [enF_open hm]; omega, by rw [enF_open hm]; omega⟩
 ·rcases enF_cases hk hm with h | ⟨j, h1, h2, h3, h4, h5⟩
  ·exact .inl h
  ·exact .inr ⟨by rw [<- h4]; exact opn_isO (top_mem h3.2.1), by rw [h5]; omega, by rw [h5]; omega⟩
end Ns
end Go.Proofs.Ytaofkaehhikfaaa
namespace Go.Proofs.Ytaofkaehhikfaaa
open Go.RowKit
structure Ow (E : TypeId) (sz : Nat) (w0 : World) (v : Value) (n : Nat) (xs : List Value) (wr : World) : Prop where
 own : wr.ownsRow w0.heap.size E sz v n xs
 bel : Below w0.heap.size w0 wr
section
variable {E : TypeId} {sz n : Nat} {w0 wr w1 : World} {v : Value} {xs : List Value}
theorem Ow.start (E : TypeId) (sz : Nat) (h : Below w0.heap.size w0 wr) : Ow E sz w0 (.slice none 0 0) 0 [] wr := ⟨World.ownsRow_nil _ _ _ _, h⟩
theorem Ow.next (h : Ow E sz w0 v n xs wr) (hb : Below wr.heap.size wr w1) : Ow E sz w0 v n xs w1 := ⟨kept_below h.own hb (Nat.le_refl _), below_next h.bel hb⟩
theorem Ow.drewN (h : Ow E sz w0 v n xs wr) (k : Nat) : Ow E sz w0 v n xs (wr.drewN k) := ⟨h.own, below_drewN h.bel k⟩
theorem Ow.alloc (h : Ow E sz w0 v n xs wr) (o : Obj) : Ow E sz w0 v n xs (wr.alloc o) := h.next ((Below.refl _ _).alloc (Nat.le_refl _) _)
theorem own_cut {w : World} {base : Nat} {e : TypeId} {size n cap : Nat} {A : Option Addr} {xs : List Value} (h : w.ownsRow base e size (.slice A n cap) n xs) {m : Nat} (hm : m <= n) : w.ownsRow base e size (.slice A m cap) m (xs.take (m * size)) := by
 have hl := h.1
 refine ⟨by rw [List.length_take, hl]; exact Nat.min_eq_left (Nat.mul_le_mul_right _ hm), ?_⟩
 rcases h.2 with ⟨hv, h0⟩ | ⟨g, c, cur, hv, h1, h2, h3, h4, h5, h6⟩
 ·left
  have hm0 : m = 0 := by omega
  injection hv with ha _ hc
  rw [ha, hc, hm0]
  exact ⟨rfl, rfl⟩
 ·right
  injection hv with ha _ hc
  refine ⟨g, c, cur, by rw [ha, hc], h1, h2, by omega, h4, h5, ?_⟩
  rw [<- h6, List.take_take, Nat.min_eq_left (Nat.mul_le_mul_right _ hm)]
theorem Ow.cut {A : Option Addr} {cap : Nat} (h : Ow E sz w0 (.slice A n cap) n xs wr) {m : Nat} (hm : m <= n) : Ow E sz w0 (.slice A m cap) m (xs.take (m * sz)) wr := ⟨own_cut h.own hm, h.bel⟩
theorem Ow.form (h : Ow E sz w0 v n xs wr) : ∃ (A : Option Addr) (cap : Nat), v = .slice A n cap /\ n <= cap := by
 rcases h.own.2 with ⟨rfl, h0⟩ | ⟨x, cap, cur, rfl, _, _, hc, _⟩
 ·exact ⟨none, 0, by rw [h0], by omega⟩
 ·exact ⟨_, cap, rfl, hc⟩
theorem Ow.cells {g cap : Nat} (h : Ow E sz w0 (.slice (some ⟨g, 0, none⟩) n cap) n xs wr) {j : Nat} {u : Value} (hj : xs[j]? = some u) : wr.cell? ⟨g, j, none⟩ = some u := by
 have := h.own.cells (g := g) rfl j u hj
 rwa [Addr.add_lit, Nat.zero_add] at this
theorem Ow.at_ (h : Ow E sz w0 v n xs wr) (h0 : 0 < n) : ∃ g cap, v = .slice (some ⟨g, 0, none⟩) n cap /\ n <= cap /\ w0.heap.size <= g /\ g < wr.heap.size := by
 rcases h.own.2 with ⟨_, h1⟩ | ⟨x, cap, cur, rfl, hg, hh, hc, _⟩
 ·omega
 ·exact ⟨x, cap, rfl, hc, hg, (Array.getElem?_eq_some_iff.1 hh).1⟩
theorem app_own {P : Program} {ops : Array Oper} {rest : List Oper} {o : Oper} {a : Act} {Q : Exit -> Act -> World -> Prop} (hgd : o.guard = none) (s x : Operand) (t : TypeId)
 (ho : o.op = .call { callee := .builtin .append, args := #[s, x], argTypes := #[t, t] }) (i : TypeInfo) (z : Value) (bytes : Nat) (ht : P.underlying t = some (.slice E)) (hi : P.info? E = some i) (hz : i.zero = some z)
 (hsize : i.size = sz) (hby : i.bytes = bytes) (hzs : z.cells.size = sz) (hsz : 0 < sz) (hs : a.eval s = v) (H : Ow E sz w0 v n xs wr) (news : List Value) (c : Nat) (E' : TypeId) (B : Nat) (hB : B = wr.heap.size)
 (hx : a.eval x = .slice (some ⟨B, 0, none⟩) 1 c) (hl : news.length = sz) (h1 : ∀ u ∈ news, u.oneCell' = true) (h63 : n + 1 <= maxLen) (hbytes : (n + 1) * bytes <= 140737488355328)
 (h : ∀ v' w3, Ow E sz w0 v' (n + 1) (xs ++ news) w3 -> wpList P ops Q rest (a.put o.dst v') w3) : wpList P ops Q (o :: rest) a (wr.alloc (.cells news.toArray E')) := by
 subst hB
 refine wpList_append_own _ hgd s x t ho w0.heap.size E i z sz bytes ht hi hz hsize hby hzs hsz v n xs hs (H.own.alloc _) ⟨wr.heap.size, 0, none⟩ 1 c news hx (by omega) (fun j u hj => ?_) h1 h63 hbytes (alloc_size H.bel.size _) ?_
 ·rw [Addr.add_lit, Nat.zero_add, World.cell?_alloc_mark]
  simpa using hj
 ·intro v' w3 hown hg _
  exact h v' w3 ⟨hown, (H.bel.alloc H.bel.size _).grown hg (by have := H.bel.size; simp; omega) (fun j hj => (H.own.lt j hj).1)⟩
end
theorem app_int {ops : Array Oper} {rest : List Oper} {o : Oper} {a : Act} {Q : Exit -> Act -> World -> Prop} {w0 wr : World} {v : Value} {l : List Int} (hgd : o.guard = none) (s x : Operand)
 (ho : o.op = .call { callee := .builtin .append, args := #[s, x], argTypes := #[39, 39] }) (hs : a.eval s = v) (H : Ow 3 1 w0 v l.length (nums .i64 l) wr) (y : Int) (c : Nat) (E' : TypeId)
 (hx : a.eval x = .slice (some ⟨wr.heap.size, 0, none⟩) 1 c) (hm : l.length <= 1000000)
 (h : ∀ v' w3, Ow 3 1 w0 v' (l ++ [y]).length (nums .i64 (l ++ [y])) w3 -> wpList Try.prog ops Q rest (a.put o.dst v') w3) : wpList Try.prog ops Q (o :: rest) a (wr.alloc (.cells #[.int .i64 y] E')) := by
 obtain ⟨i0, hi, hz0, hz1, hz2⟩ := info_parts Try.info3
 refine app_own hgd s x 39 ho i0 (.int .i64 0) 8 Try.underlying39 hi hz0 hz1 hz2 rfl (by decide) hs H [.int .i64 y] c E' _ rfl hx rfl (one_ok _) (by unfold maxLen; omega) (by omega) (fun v' w3 H3 => ?_)
 refine h v' w3 ?_
 rw [List.length_append, nums_app]
 exact H3
theorem made_of {w0 wr : World} {v : Value} {l : List Int} (H : Ow 3 1 w0 v l.length (nums .i64 l) wr) {e : Ending} (he : e = .returned v) : Made .i64 3 l w0 e wr := ⟨v, he, H.own, H.bel⟩
namespace Ns
def ni (o : List Nat) : List Int := List.map (fun (x : Nat) => (x : Int)) o
theorem ni_len (o : List Nat) : (ni o).length = o.length := by unfold ni; simp
theorem ni_app (o r : List Nat) : ni (o ++ r) = ni o ++ ni r := by unfold ni; simp
theorem ni_g {o : List Nat} {j : Nat} (h : j < o.length) : Ru.g (ni o) j = ((o.getD j 0 : Nat) : Int) := by
 unfold Ru.g ni
 rw [List.getD_eq_getElem?_getD, List.getElem?_map, List.getElem?_eq_getElem h, List.getD_eq_getElem?_getD, List.getElem?_eq_getElem h]; rfl
theorem top_g {o : List Nat} (h : 0 < o.length) : Ru.g (ni o) (o.length - 1) = (top o : Int) := by
 rw [ni_g (by omega)]
 unfold top
 rw [List.getLastD_eq_getLast?, List.getLast?_eq_getElem?, List.getD_eq_getElem?_getD]
theorem ni_drop (o : List Nat) : ni o.dropLast = (ni o).take (o.length - 1) := by
 unfold ni; rw [List.dropLast_eq_take, List.map_take]
theorem empty_f {c : ByteArray} (h : c ≠ ⟨#[]⟩) : c.toList.isEmpty = false := by
 cases hc : c.toList.isEmpty with
 | false => rfl
 | true =>
   rw [List.isEmpty_iff] at hc
   exact absurd (str_ext (by rw [hc, Lib.toList_data])) h
end Ns
theorem nums_take (k : IntKind) (l : List Int) (m : Nat) : nums k (l.take m) = (nums k l).take m := by unfold nums; rw [List.map_take]
def EndsOk (ts : List Tk.Tok) (w : World) (e : Ending) (w' : World) : Prop :=
 ∃ v, e = .returned (.tuple #[v, .int .i64 0]) /\ w'.ownsRow w.heap.size 3 1 v (Ns.ends ts).length (nums .i64 (Ns.ends ts)) /\ Below w.heap.size w w'
def EndsBad (w : World) (e : Ending) (w' : World) : Prop := e = .returned (.tuple #[.slice none 0 0, .int .i64 3]) /\ Below w.heap.size w w'
def EndsIs (ts : List Tk.Tok) (w : World) (e : Ending) (w' : World) : Prop := (¬ Ns.deep ts -> EndsOk ts w e w') /\ (Ns.deep ts -> EndsBad w e w')
def EndsL (es : List Int) (w : World) (e : Ending) (w' : World) : Prop :=
 ∃ (A : Option Addr) (cap : Nat), e = .returned (.tuple #[.slice A es.length cap, .int .i64 0]) /\ es.length <= cap /\ Bs w' w'.heap.size .i64 A es /\ Below w.heap.size w w'
abbrev EndsRd (ts : List Tk.Tok) (w : World) (e : Ending) (w' : World) : Prop := EndsL (Ns.ends ts) w e w'
theorem ends_rd {ts : List Tk.Tok} {w : World} {e : Ending} {w' : World} (h : EndsOk ts w e w') : EndsL (Ns.ends ts) w e w' := by
 obtain ⟨v, rfl, ho, hb⟩ := h
 obtain ⟨A, cap, rfl, hc, hB⟩ := own_form ho
 exact ⟨A, cap, rfl, hc, hB, hb⟩
namespace Ns
open Tk
theorem ends_none {ts : List Tok} {k : Nat} (hk : k < ts.length) (h : ¬ isO (tk ts k)) : Ru.g (ends ts) k = -1 := by
 unfold Ru.g
 rcases ends_range hk with h1 | h1
 ·exact h1.2
 ·exact absurd h1.1 h
def Known (ts : List Tok) (k j : Nat) (e : Int) : Prop := k ∈ opn ts j -> e = Ru.g (ends ts) k
theorem known_start (ts : List Tok) (k : Nat) : Known ts k ts.length ts.length := fun h => by
 unfold Ru.g ends
 rw [enF_open h]
theorem known_same {ts : List Tok} {k j : Nat} {e : Int} (h : Known ts k (j + 1) e) (hm : k ∈ opn ts (j + 1)) : Known ts k j e := fun _ => h hm
theorem known_new {ts : List Tok} {k j : Nat} (hj : j < ts.length) (hm : k ∉ opn ts (j + 1)) : Known ts k j j := fun h => by
 have hc : closes ts (opn ts j) j /\ top (opn ts j) = k := Decidable.of_not_not fun hn => hm (mem_next h hn)
 unfold Ru.g ends
 rw [enF_at_pop hc.1 hc.2 hj]
theorem known_end {ts : List Tok} {k : Nat} {e : Int} (hO : isO (tk ts k)) (h : Known ts k (k + 1) e) : e = Ru.g (ends ts) k := h (by rw [opn_push hO]; simp)
end Ns
namespace Ns
open Tk
def Fit (es : List Int) : Prop := es.length <= 65536 /\ ∀ j, j < es.length -> -1 <= Ru.g es j /\ Ru.g es j <= 65536
theorem ends_fit {ts : List Tok} (hm : ts.length <= 65536) : Fit (ends ts) := by
 refine ⟨by rw [ends_len]; exact hm, fun j hj => ?_⟩
 rw [ends_len] at hj
 have := ends_range hj
 unfold Ru.g
 omega
def Lead (es : List Int) : Prop := ∀ j, j < es.length -> Ru.g es j = -1 ∨ Ru.g es j = (es.length : Int) ∨ ((j : Int) < Ru.g es j /\ Ru.g es j < (es.length : Int) /\ Ru.g es (Ru.g es j).toNat = -1)
theorem ends_pair {ts : List Tok} {k : Nat} (hk : k < ts.length) (hO : isO (tk ts k)) : Ru.g (ends ts) k = (ts.length : Int) ∨ ∃ j, k < j /\ j < ts.length /\ Ru.g (ends ts) k = (j : Int) /\ (tk ts j).1 = 13 /\ clo (tk ts k) = (tk ts j).2.1 /\ Ru.g (ends ts) j = -1 := by
 have e : ∀ x, Ru.g (ends ts) x = (enF ts ts.length).getD x 0 := fun x => rfl
 by_cases hm : k ∈ opn ts ts.length
 ·left; rw [e, enF_open hm]
 ·rcases enF_cases hk hm with h | ⟨j, h1, h2, h3, h4, h5⟩
  ·exact absurd hO h.1
  ·refine .inr ⟨j, h1, h2, by rw [e, h5], h3.1, by rw [<- h4]; exact h3.2.2, ends_none h2 (closes_not h3)⟩
theorem ends_lead (ts : List Tok) : Lead (ends ts) := fun j hj => by
 rw [ends_len] at hj ⊢
 by_cases hO : isO (tk ts j)
 ·rcases ends_pair hj hO with h | ⟨m, h1, h2, h3, _, _, h6⟩
  ·exact .inr (.inl h)
  ·exact .inr (.inr ⟨by rw [h3]; omega, by rw [h3]; omega, by rw [h3, Int.toNat_natCast]; exact h6⟩)
 ·exact .inl (ends_none hj hO)
def skp (es : List Int) (a : Int) : Int := if 0 <= a /\ a < es.length /\ a <= Ru.g es a.toNat then min (Ru.g es a.toNat + 1) es.length else a + 1
theorem skp_yes {es : List Int} {a : Int} (h0 : 0 <= a) (h1 : a < es.length) (h2 : a <= Ru.g es a.toNat) : skp es a = min (Ru.g es a.toNat + 1) es.length := by unfold skp; rw [if_pos ⟨h0, h1, h2⟩]
theorem skp_no {es : List Int} {a : Int} (h : ¬ (0 <= a /\ a < es.length /\ a <= Ru.g es a.toNat)) : skp es a = a + 1 := by unfold skp; rw [if_neg h]
theorem skp_gt (es : List Int) (a : Int) : a < skp es a := by unfold skp; split <;> omega
theorem skp_le {es : List Int} {a : Int} (h : a < es.length) : skp es a <= es.length := by unfold skp; split <;> omega
def sk (es : List Int) (a : Nat) : Nat := (skp es a).toNat
theorem sk_eq (es : List Int) (a : Nat) : ((sk es a : Nat) : Int) = skp es a := by unfold sk; have := skp_gt es a; omega
theorem sk_gt (es : List Int) (a : Nat) : a < sk es a := by have := skp_gt es a; have := sk_eq es a; omega
theorem sk_le {es : List Int} {a : Nat} (h : a < es.length) : sk es a <= es.length := by have := skp_le (es := es) (a := a) (by omega); have := sk_eq es a; omega
def plc (es : List Int) (tz a : Nat) : List Nat := if _h : a < tz then a :: plc es tz (sk es a) else []
termination_by tz - a
decreasing_by have := sk_gt es a; omega
theorem plc_on {es : List Int} {tz a : Nat} (h : a < tz) : plc es tz a = a :: plc es tz (sk es a) := by rw [plc, dif_pos h]
theorem plc_end {es : List Int} {tz a : Nat} (h : ¬ a < tz) : plc es tz a = [] := by rw [plc, dif_neg h]
theorem plc_mem {es : List Int} {tz : Nat} : ∀ (m : Nat) {a x : Nat}, tz - a <= m -> x ∈ plc es tz a -> a <= x /\ x < tz
 | m, a, x, hm, hx => by
   by_cases h : a < tz
   ·rw [plc_on h] at hx
    rcases List.mem_cons.1 hx with rfl | hx
    ·omega
    ·match m, hm with
     | 0, hm => omega
     | m + 1, hm =>
       have hg := sk_gt es a
       have := plc_mem m (by omega) hx
       omega
   ·rw [plc_end h] at hx; cases hx
theorem plc_len {es : List Int} {tz : Nat} : ∀ (m a : Nat), tz - a <= m -> (plc es tz a).length <= tz - a
 | m, a, hm => by
   by_cases h : a < tz
   ·rw [plc_on h]
    match m, hm with
    | 0, hm => omega
    | m + 1, hm =>
      have hg := sk_gt es a
      have := plc_len (es := es) (tz := tz) m (sk es a) (by omega)
      simp only [List.length_cons]
      omega
   ·rw [plc_end h]; simp
def fnd (p : Nat -> Bool) : List Nat -> Int
 | [] => -1
 | a :: r => if p a = true then a else fnd p r
def spl (p : Nat -> Bool) (tz : Nat) : List Nat -> Nat -> List (Nat × Nat)
 | [], b => [(b, tz)]
 | a :: r, b => if p a = true /\ b <= a then (b, a) :: spl p tz r (a + 1) else spl p tz r b
def flat (ps : List (Nat × Nat)) : List Int := ps.flatMap fun q => [(q.1 : Int), (q.2 : Int)]
theorem flat_len (ps : List (Nat × Nat)) : (flat ps).length = ps.length * 2 := by
 induction ps with
 | nil => rfl
 | cons q ps ih => unfold flat at ih ⊢; rw [List.flatMap_cons, List.length_append, ih, List.length_cons]; simp; omega
theorem flat_app (ps qs : List (Nat × Nat)) : flat (ps ++ qs) = flat ps ++ flat qs := by unfold flat; rw [List.flatMap_append]
def trA (ts : List Tok) (b a : Nat) : Nat := if _h : a < b /\ (tk ts a).1 = 1 then trA ts b (a + 1) else a
termination_by b - a
theorem trA_on {ts : List Tok} {b a : Nat} (h : a < b /\ (tk ts a).1 = 1) : trA ts b a = trA ts b (a + 1) := by rw [trA, dif_pos h]
theorem trA_end {ts : List Tok} {b a : Nat} (h : ¬ (a < b /\ (tk ts a).1 = 1)) : trA ts b a = a := by rw [trA, dif_neg h]
def trB (ts : List Tok) (a : Nat) : Nat -> Nat
 | 0 => 0
 | b + 1 => if a < b + 1 /\ (tk ts b).1 = 1 then trB ts a b else b + 1
theorem trB_on {ts : List Tok} {a b : Nat} (h : a < b + 1 /\ (tk ts b).1 = 1) : trB ts a (b + 1) = trB ts a b := by rw [trB, if_pos h]
theorem trB_end {ts : List Tok} {a b : Nat} (h : ¬ (a < b + 1 /\ (tk ts b).1 = 1)) : trB ts a (b + 1) = b + 1 := by rw [trB, if_neg h]
theorem trB_low {ts : List Tok} {a b : Nat} (h : b <= a) : trB ts a b = b := by
 match b, h with
 | 0, _ => rfl
 | b + 1, h => exact trB_end (fun c => by omega)
end Ns
abbrev prC (ps : List (Nat × Nat)) : List Value := nums .i64 (Ns.flat ps)
def ToldP (ps : List (Nat × Nat)) (w : World) (e : Ending) (w' : World) : Prop :=
 ∃ (A : Option Addr) (cap : Nat), e = .returned (.slice A ps.length cap) /\ ps.length <= cap /\ Bs w' w'.heap.size .i64 A (Ns.flat ps) /\ Below w.heap.size w w'
theorem Bs.of_own2 {w : World} {base : Nat} {e : TypeId} {A : Option Addr} {n cap sz : Nat} {l : List Int} (h : w.ownsRow base e sz (.slice A n cap) n (nums .i64 l)) : Bs w w.heap.size .i64 A l := fun hl => by
 have hn : 0 < n := by
  rcases Nat.eq_zero_or_pos n with h0 | h0
  ·have := h.1; rw [h0, Nat.zero_mul, nums_len] at this; omega
  ·exact h0
 obtain ⟨x, c, hv, _, hlt⟩ := h.form hn
 have hA : A = some ⟨x, 0, none⟩ := by injection hv
 subst hA
 refine ⟨x, 0, rfl, hlt, fun j hj => ?_⟩
 have := h.cells (g := x) rfl j _ (nums_get (k := .i64) hj)
 rwa [Addr.add_lit] at this
end Go.Proofs.Ytaofkaehhikfaaa
