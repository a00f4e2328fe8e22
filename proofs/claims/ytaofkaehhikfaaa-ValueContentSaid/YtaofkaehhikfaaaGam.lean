/-
  Plain mathematics of decimals: what the digits of a decimal are, its exponent, its number. No program.
-/
import Derived.Test.YtaofkaehhikfaaaGal
import Derived.Lib.Atoi
import Derived.Test.YtaofkaehhikfaaaGad
import Derived.Lib.Strings
import Derived.Test.YtaofkaehhikfaaaGaa
import Derived.Test.YtaofkaehhikfaaaGab
import Derived.Laws.NewBlocks
import Derived.Laws.BytesArg
import Derived.Laws.IdiomStrings
set_option maxHeartbeats 16000000
set_option maxRecDepth 100000
namespace Go.Proofs.Ytaofkaehhikfaaa
namespace Fx
def dv (c : UInt8) : Nat := c.toNat - 48
def valFrom (acc : Nat) (l : List UInt8) : Nat := l.foldl (fun a c => a * 10 + dv c) acc
theorem dv_le {c : UInt8} (h : isD c = true) : dv c <= 9 := by
 unfold isD at h; have := of_decide_eq_true h; unfold dv; omega
theorem digitVal_of {c : UInt8} (h : isD c = true) : Lib.digitVal c = some (dv c) := by
 unfold isD at h; have := of_decide_eq_true h; unfold Lib.digitVal dv; rw [if_pos (by omega)]
theorem decFrom_val (l : List UInt8) : ∀ acc, (∀ c ∈ l, isD c = true) -> Lib.decFrom acc l = some (valFrom acc l) := by
 induction l with
 | nil => intro acc _; rfl
 | cons a t ih =>
   intro acc h
   rw [Lib.decFrom, digitVal_of (h a (by simp))]
   exact ih _ (fun c hc => h c (by simp [hc]))
theorem atoi_val {l : List UInt8} (hn : l ≠ []) (h : ∀ c ∈ l, isD c = true) : Lib.atoi l = some ((valFrom 0 l : Nat) : Int) := by
 match l, hn with
 | a :: t, _ =>
   have ha : isD a = true := h a (by simp)
   have h45 : (a == 45) = false := by rw [beq_eq_false_iff_ne]; rintro rfl; exact absurd ha (by decide)
   have h43 : (a == 43) = false := by rw [beq_eq_false_iff_ne]; rintro rfl; exact absurd ha (by decide)
   unfold Lib.atoi
   simp only [h45, h43, Bool.false_eq_true, if_false]
   unfold Lib.decNat
   rw [decFrom_val _ _ h]
   rfl
theorem valFrom_lt (l : List UInt8) : ∀ acc, (∀ c ∈ l, isD c = true) -> valFrom acc l < (acc + 1) * 10 ^ l.length := by
 induction l with
 | nil => intro acc _; unfold valFrom; simp
 | cons a t ih =>
   intro acc h
   have h1 := ih (acc * 10 + dv a) (fun c hc => h c (by simp [hc]))
   have h2 := dv_le (h a (by simp))
   have h3 : (acc * 10 + dv a + 1) * 10 ^ t.length <= ((acc + 1) * 10) * 10 ^ t.length := Nat.mul_le_mul_right _ (by omega)
   have h4 : ((acc + 1) * 10) * 10 ^ t.length = (acc + 1) * 10 ^ (t.length + 1) := by rw [Nat.pow_succ, Nat.mul_assoc, Nat.mul_comm 10]
   have h5 : valFrom acc (a :: t) = valFrom (acc * 10 + dv a) t := rfl
   rw [h5, List.length_cons, <- h4]
   omega
def seg (l : List UInt8) (a b : Nat) : List UInt8 := (l.drop a).take (b - a)
theorem seg_join (l : List UInt8) {a b c : Nat} (h1 : a <= b) (h2 : b <= c) : seg l a c = seg l a b ++ seg l b c := by
 unfold seg
 rw [show c - a = (b - a) + (c - b) by omega, List.take_add, List.drop_drop, show a + (b - a) = b by omega]
theorem seg_all (l : List UInt8) : seg l 0 l.length = l := by unfold seg; simp
theorem seg_nil (l : List UInt8) (a : Nat) : seg l a a = [] := by unfold seg; simp
theorem seg_one {l : List UInt8} {a : Nat} (h : a < l.length) : seg l a (a + 1) = [at' l a] := by
 unfold seg at'
 rw [show a + 1 - a = 1 by omega, List.drop_eq_getElem_cons h, List.getD_eq_getElem?_getD, List.getElem?_eq_getElem h]; rfl
theorem seg_dig (l : List UInt8) (a : Nat) : seg l a (dig l a) = (l.drop a).takeWhile isD := by
 unfold seg dig
 rw [show a + ((l.drop a).takeWhile isD).length - a = ((l.drop a).takeWhile isD).length by omega]
 exact (List.prefix_iff_eq_take.1 (List.takeWhile_prefix isD)).symm
theorem seg_isD (l : List UInt8) (a : Nat) : ∀ c ∈ seg l a (dig l a), isD c = true := by
 rw [seg_dig]; intro c hc; exact List.all_eq_true.1 List.all_takeWhile c hc
theorem seg_len {l : List UInt8} {a b : Nat} (h : b <= l.length) : (seg l a b).length = b - a := by
 unfold seg; rw [List.length_take, List.length_drop]; omega
theorem seg_get (l : List UInt8) {a b i : Nat} (h : a + i < b) : (seg l a b)[i]? = l[a + i]? := by
 unfold seg; rw [List.getElem?_take_of_lt (by omega), List.getElem?_drop]
structure Sc where
 d : List Nat
 pt : Nat
 bh : Bool
 ex : Nat
 ed : Nat
 en : Bool
 ie : Bool
def step (t : Sc) (c : UInt8) : Sc :=
 if c = 101 ∨ c = 69 then { t with ie := true }
 else if t.ie = true /\ c = 45 then { t with en := true }
 else if c = 46 then { t with bh := true }
 else if isD c = true /\ t.ie = true then { t with ed := t.ed + 1, ex := if t.ex < 999999 then t.ex * 10 + dv c else t.ex }
 else if isD c = true then { t with d := t.d ++ [dv c], pt := if t.bh then t.pt else t.pt + 1 }
 else t
def sc0 : Sc := ⟨[], 0, false, 0, 0, false, false⟩
def scan (l : List UInt8) : Sc := l.foldl step sc0
theorem step_digit {t : Sc} {c : UInt8} (h : isD c = true) (hi : t.ie = false) : step t c = { t with d := t.d ++ [dv c], pt := if t.bh then t.pt else t.pt + 1 } := by
 have h1 : ¬ (c = 101 ∨ c = 69) := by rintro (rfl | rfl) <;> exact absurd h (by decide)
 have h3 : ¬ c = 46 := by rintro rfl; exact absurd h (by decide)
 unfold step
 rw [if_neg h1, if_neg (by simp [hi]), if_neg h3, if_neg (by simp [hi]), if_pos h]
theorem step_exp {t : Sc} {c : UInt8} (h : isD c = true) (hi : t.ie = true) : step t c = { t with ed := t.ed + 1, ex := if t.ex < 999999 then t.ex * 10 + dv c else t.ex } := by
 have h1 : ¬ (c = 101 ∨ c = 69) := by rintro (rfl | rfl) <;> exact absurd h (by decide)
 have h2 : ¬ c = 45 := by rintro rfl; exact absurd h (by decide)
 have h3 : ¬ c = 46 := by rintro rfl; exact absurd h (by decide)
 unfold step
 rw [if_neg h1, if_neg (by simp [h2]), if_neg h3, if_pos ⟨h, hi⟩]
theorem fold_digits (l : List UInt8) : ∀ t : Sc, (∀ c ∈ l, isD c = true) -> t.ie = false -> l.foldl step t = { t with d := t.d ++ l.map dv, pt := if t.bh then t.pt else t.pt + l.length } := by
 induction l with
 | nil => intro t _ _; simp
 | cons a r ih =>
   intro t h hi
   rw [List.foldl_cons, step_digit (h a (by simp)) hi]
   refine (ih _ (fun c hc => h c (by simp [hc])) ?_).trans ?_
   ·exact hi
   ·cases hb : t.bh <;> simp
    omega
def expFold (e : Nat) (l : List UInt8) : Nat := l.foldl (fun e c => if e < 999999 then e * 10 + dv c else e) e
theorem fold_exp (l : List UInt8) : ∀ t : Sc, (∀ c ∈ l, isD c = true) -> t.ie = true -> l.foldl step t = { t with ed := t.ed + l.length, ex := expFold t.ex l } := by
 induction l with
 | nil => intro t _ _; simp [expFold]
 | cons a r ih =>
   intro t h hi
   rw [List.foldl_cons, step_exp (h a (by simp)) hi]
   refine (ih _ (fun c hc => h c (by simp [hc])) ?_).trans ?_
   ·exact hi
   ·simp [expFold]; omega
theorem expFold_val (l : List UInt8) : ∀ e, (∀ c ∈ l, isD c = true) -> (e + 1) * 10 ^ l.length <= 1000000 -> expFold e l = valFrom e l := by
 induction l with
 | nil => intro e _ _; rfl
 | cons a r ih =>
   intro e h hb
   have h2 := dv_le (h a (by simp))
   have hp : 1 <= 10 ^ r.length := Nat.one_le_pow _ _ (by decide)
   have hb' : (e + 1) * 10 * 10 ^ r.length <= 1000000 := by rw [Nat.mul_assoc, Nat.mul_comm 10, <- Nat.pow_succ]; exact hb
   have he : (e + 1) * 10 <= 1000000 := Nat.le_trans (Nat.le_mul_of_pos_right _ hp) hb'
   have e1 : expFold e (a :: r) = expFold (e * 10 + dv a) r := by
    show expFold (if e < 999999 then e * 10 + dv a else e) r = _
    rw [if_pos (by omega)]
   rw [e1, ih _ (fun c hc => h c (by simp [hc])) (Nat.le_trans (Nat.mul_le_mul_right _ (by omega)) hb')]
   rfl
def dgt (l : List UInt8) (place : Nat) : Nat :=
 if spS l + place < spW l then dv (at' l (spS l + place))
 else if spS l + place + 1 < spD l then dv (at' l (spS l + place + 1)) else 0
def digs (l : List UInt8) : List Nat := (seg l (spS l) (spW l)).map dv ++ (seg l (spW l + 1) (spD l)).map dv
def place0 (l : List UInt8) : Nat := spW l - spS l
def fromE (l : List UInt8) : Nat := sgn l (spD l + 1)
def expMag (l : List UInt8) : Nat := if spE l - fromE l <= 6 then valFrom 0 (seg l (fromE l) (spE l)) else 999999
def expo (l : List UInt8) : Int := if spE l = spD l then 0 else if at' l (spD l + 1) = 45 then -(expMag l : Int) else expMag l
theorem at_eq {l : List UInt8} {i : Nat} (h : i < l.length) : l[i]? = some (at' l i) := by
 unfold at'; rw [List.getD_eq_getElem?_getD, List.getElem?_eq_getElem h]; rfl
theorem digs_get (l : List UInt8) (i : Nat) : (digs l).getD i 0 = dgt l i := by
 have b1 := spS_hi l
 have b2 := spW_hi l
 have b3 := spW_lo l
 have b4 := spD_hi l
 have b5 := spD_lo l
 unfold digs dgt
 rw [List.getD_eq_getElem?_getD, List.getElem?_append, List.length_map, seg_len b2]
 by_cases h : spS l + i < spW l
 ·rw [if_pos (by omega), if_pos h, List.getElem?_map, seg_get l h, at_eq (by omega)]; rfl
 ·rw [if_neg (by omega), if_neg h, List.getElem?_map]
  by_cases h2 : spS l + i + 1 < spD l
  ·rw [if_pos h2, seg_get l (by omega), show spW l + 1 + (i - (spW l - spS l)) = spS l + i + 1 by omega, at_eq (by omega)]; rfl
  ·rw [if_neg h2, List.getElem?_eq_none (by rw [seg_len b4]; omega)]; rfl
theorem digs_len (l : List UInt8) : (digs l).length = (spW l - spS l) + (spD l - (spW l + 1)) := by
 unfold digs
 rw [List.length_append, List.length_map, List.length_map, seg_len (spW_hi l), seg_len (spD_hi l)]
theorem sign_fold (l : List UInt8) : (seg l 0 (spS l)).foldl step sc0 = sc0 := by
 have h := spS_hi l
 have hd : spS l = if (at' l 0 = 43 ∨ at' l 0 = 45) then 0 + 1 else 0 := rfl
 by_cases hc : at' l 0 = 43 ∨ at' l 0 = 45
 ·rw [if_pos hc] at hd
  rw [hd, seg_one (by omega)]
  rcases hc with hc | hc <;> rw [hc] <;> rfl
 ·rw [if_neg hc] at hd
  rw [hd, seg_nil]; rfl
theorem spD_case (l : List UInt8) : spD l = spW l ∨ (at' l (spW l) = 46 /\ spW l + 1 < spD l /\ spD l = dig l (spW l + 1)) := by
 unfold spD spDof
 split
 ·rename_i h; exact Or.inr ⟨h.1, h.2, rfl⟩
 ·exact Or.inl rfl
theorem spE_case (l : List UInt8) : spE l = spD l ∨ ((at' l (spD l) = 101 ∨ at' l (spD l) = 69) /\ fromE l < spE l /\ spE l = dig l (fromE l)) := by
 unfold spE spEof fromE
 split
 ·rename_i h; exact Or.inr ⟨h.1, h.2, rfl⟩
 ·exact Or.inl rfl
def sc1 (l : List UInt8) : Sc := ⟨digs l, place0 l, decide (spW l < spD l), 0, 0, false, false⟩
theorem scan_digits (l : List UInt8) : (seg l 0 (spD l)).foldl step sc0 = sc1 l := by
 have b1 := spS_hi l
 have b2 := spW_hi l
 have b3 := spW_lo l
 have b4 := spD_hi l
 have b5 := spD_lo l
 rw [seg_join l (Nat.zero_le (spS l)) (by omega), seg_join l b3 b5, List.foldl_append, List.foldl_append, sign_fold]
 rw [fold_digits _ sc0 (by have := seg_isD l (spS l); exact this) rfl]
 rcases spD_case l with h | ⟨h1, h2, h3⟩
 ·rw [h, seg_nil]
  unfold sc1 digs place0 sc0
  rw [h, show seg l (spW l + 1) (spW l) = [] by unfold seg; simp, seg_len b2]
  simp
 ·rw [seg_join l (show spW l <= spW l + 1 by omega) (by omega), seg_one (by omega), h1, List.foldl_append]
  have hD : ∀ c ∈ seg l (spW l + 1) (spD l), isD c = true := by rw [h3]; exact seg_isD l _
  have e46 : ∀ t : Sc, [(46 : UInt8)].foldl step t = { t with bh := true } := by
   intro t
   show step t 46 = _
   unfold step
   rw [if_neg (by decide), if_neg (by rintro ⟨_, h⟩; exact absurd h (by decide)), if_pos rfl]
  rw [e46, fold_digits _ _ hD rfl]
  unfold sc1 digs place0 sc0
  rw [seg_len b2]
  simp
  omega
def exRef (l : List UInt8) : Nat := if spE l = spD l then 0 else expFold 0 (seg l (fromE l) (spE l))
def edRef (l : List UInt8) : Nat := if spE l = spD l then 0 else spE l - fromE l
def sc2 (l : List UInt8) : Sc := ⟨digs l, place0 l, decide (spW l < spD l), exRef l, edRef l, decide (spE l ≠ spD l /\ at' l (spD l + 1) = 45), decide (spE l ≠ spD l)⟩
theorem scan_all (l : List UInt8) : (seg l 0 (spE l)).foldl step sc0 = sc2 l := by
 have b4 := spD_hi l
 have b6 := spE_hi l
 have b7 := spE_lo l
 rcases spE_case l with h | ⟨h1, h2, h3⟩
 ·rw [h, scan_digits]
  unfold sc1 sc2 exRef edRef
  simp [h]
 ·have g1 : spD l + 1 <= fromE l := sgn_lo l _
  have hlt : spD l < l.length := by omega
  have hne : ¬ spE l = spD l := by omega
  rw [seg_join l (Nat.zero_le (spD l)) b7, seg_join l (show spD l <= spD l + 1 by omega) (by omega), seg_join l g1 (by omega), seg_one hlt]
  rw [List.foldl_append, List.foldl_append, List.foldl_append, scan_digits]
  have eE : [at' l (spD l)].foldl step (sc1 l) = { sc1 l with ie := true } := by
   show step _ _ = _
   unfold step
   rw [if_pos h1]
  rw [eE]
  have hD : ∀ c ∈ seg l (fromE l) (spE l), isD c = true := by rw [h3]; exact seg_isD l _
  have hf : fromE l = if (at' l (spD l + 1) = 43 ∨ at' l (spD l + 1) = 45) then spD l + 1 + 1 else spD l + 1 := rfl
  have eS : (seg l (spD l + 1) (fromE l)).foldl step { sc1 l with ie := true } = { sc1 l with ie := true, en := decide (at' l (spD l + 1) = 45) } := by
   by_cases hc : at' l (spD l + 1) = 43 ∨ at' l (spD l + 1) = 45
   ·rw [if_pos hc] at hf
    rw [hf, seg_one (by omega)]
    show step _ _ = _
    rcases hc with hc | hc
    ·rw [hc]
     unfold step
     rw [if_neg (by decide), if_neg (by rintro ⟨_, h⟩; exact absurd h (by decide)), if_neg (by decide), if_neg (by rintro ⟨h, _⟩; exact absurd h (by decide)), if_neg (by decide)]
     rfl
    ·rw [hc]
     unfold step
     rw [if_neg (by decide), if_pos ⟨rfl, rfl⟩]
     rfl
   ·rw [if_neg hc] at hf
    rw [hf, seg_nil]
    have : decide (at' l (spD l + 1) = 45) = false := decide_eq_false (fun h => hc (Or.inr h))
    rw [this]; rfl
  rw [eS, fold_exp _ _ hD rfl]
  unfold sc1 sc2 exRef edRef
  rw [if_neg hne, if_neg hne, seg_len b6]
  simp [hne]
theorem exp_ref (l : List UInt8) : (if (999999 < exRef l ∨ 6 < edRef l) then (999999 : Int) else exRef l) = if spE l = spD l then 0 else (expMag l : Int) := by
 rcases spE_case l with h | ⟨h1, h2, h3⟩
 ·unfold exRef edRef; rw [if_pos h, if_pos h, if_pos h]; rfl
 ·have hne : ¬ spE l = spD l := by have : spD l + 1 <= fromE l := sgn_lo l _; omega
  have hD : ∀ c ∈ seg l (fromE l) (spE l), isD c = true := by rw [h3]; exact seg_isD l _
  unfold exRef edRef expMag
  rw [if_neg hne, if_neg hne, if_neg hne]
  by_cases h6 : spE l - fromE l <= 6
  ·have hl := seg_len (a := fromE l) (spE_hi l)
   have hp : 10 ^ (spE l - fromE l) <= 10 ^ 6 := Nat.pow_le_pow_right (by decide) h6
   have hv := valFrom_lt _ 0 hD
   rw [hl] at hv
   rw [expFold_val _ 0 hD (by rw [hl]; omega), if_pos h6, if_neg (by omega)]
  ·rw [if_pos (Or.inr (by omega)), if_neg h6]; rfl
theorem expMag_bd (l : List UInt8) : expMag l <= 999999 := by
 unfold expMag
 split
 ·rename_i h6
  rcases spE_case l with h | ⟨h1, h2, h3⟩
  ·have : spD l + 1 <= fromE l := sgn_lo l _
   have e : seg l (fromE l) (spE l) = [] := by unfold seg; rw [show spE l - fromE l = 0 by omega]; rfl
   rw [e]; decide
  ·have hD : ∀ c ∈ seg l (fromE l) (spE l), isD c = true := by rw [h3]; exact seg_isD l _
   have hv := valFrom_lt _ 0 hD
   rw [seg_len (spE_hi l)] at hv
   have hp : 10 ^ (spE l - fromE l) <= 10 ^ 6 := Nat.pow_le_pow_right (by decide) h6
   omega
 ·omega
theorem expo_bd (l : List UInt8) : -999999 <= expo l /\ expo l <= 999999 := by
 have := expMag_bd l
 unfold expo; split
 ·omega
 ·split <;> omega
def V (f : Nat -> Nat) : Nat -> Nat
 | 0 => 0
 | n + 1 => V f n * 10 + f n
theorem V_mono (f : Nat -> Nat) (a : Nat) : ∀ n, V f a <= V f (a + n) := by
 intro n
 induction n with
 | zero => exact Nat.le_refl _
 | succ n ih => show _ <= V f (a + n) * 10 + _; omega
theorem V_zero (f : Nat -> Nat) (a : Nat) (h0 : V f a = 0) (hf : ∀ i, a <= i -> f i = 0) : ∀ n, V f (a + n) = 0 := by
 intro n
 induction n with
 | zero => exact h0
 | succ n ih => show V f (a + n) * 10 + f (a + n) = 0; rw [ih, hf _ (by omega)]
def mag (l : List UInt8) : Int := min (V (dgt l) ((place0 l : Int) + expo l + 3).toNat : Nat) 1099511627776
def num (l : List UInt8) : Int := if at' l 0 = 45 then - mag l else mag l
def isDec (l : List UInt8) : Bool := decide (len l ≠ 0 /\ len l = l.length)
theorem isDec_of {l : List UInt8} (h : isDec l = true) : spD l ≠ spS l /\ spE l = l.length := by
 have h1 := of_decide_eq_true h
 unfold len at h1
 by_cases hn : spD l = spS l
 ·rw [if_pos hn] at h1; exact absurd rfl h1.1
 ·rw [if_neg hn] at h1; exact ⟨hn, h1.2⟩
theorem scan_dec {l : List UInt8} (h : isDec l = true) : scan l = sc2 l := by
 have h1 := scan_all l
 rw [(isDec_of h).2, seg_all] at h1
 exact h1
theorem digs_pos {l : List UInt8} (h : isDec l = true) : 0 < (digs l).length := by
 have h1 := (isDec_of h).1
 have b5 := spD_lo l
 have b3 := spW_lo l
 rw [digs_len]
 rcases spD_case l with h2 | ⟨_, h2, _⟩ <;> omega
theorem expo_two (l : List UInt8) : expo l = if decide (spE l ≠ spD l /\ at' l (spD l + 1) = 45) = true then - (if spE l = spD l then 0 else (expMag l : Int)) else (if spE l = spD l then 0 else (expMag l : Int)) := by
 unfold expo
 by_cases h1 : spE l = spD l
 ·rw [if_pos h1]; simp [h1]
 ·rw [if_neg h1]
  by_cases h2 : at' l (spD l + 1) = 45
  ·rw [if_pos h2, if_pos (decide_eq_true ⟨h1, h2⟩), if_neg h1]
  ·rw [if_neg h2, if_neg (by simp [h2]), if_neg h1]
theorem dig_in {l : List UInt8} {a j : Nat} (h1 : a <= j) (h2 : j < dig l a) : isD (at' l j) = true := by
 have hl : j < l.length := by
  by_cases ha : a <= l.length
  ·have := dig_hi l a ha; omega
  ·have hz : dig l a = a := dig_no l a (by rw [at_zero (by omega)]; rfl)
   omega
 refine seg_isD l a _ ?_
 have h3 : (seg l a (dig l a))[j - a]? = some (at' l j) := by
  rw [seg_get l (by omega), show a + (j - a) = j by omega, at_eq hl]
 exact List.mem_of_getElem? h3
theorem dgt_le (l : List UInt8) (i : Nat) : dgt l i <= 9 := by
 unfold dgt
 split
 ·rename_i hi
  exact dv_le (dig_in (a := spS l) (by omega) hi)
 ·split
  ·rename_i h1 h2
   rcases spD_case l with h | ⟨_, _, h⟩
   ·omega
   ·rw [h] at h2
    exact dv_le (dig_in (a := spW l + 1) (by omega) h2)
  ·omega
end Fx
end Go.Proofs.Ytaofkaehhikfaaa
namespace Go.Proofs.Ytaofkaehhikfaaa
open Go.RowKit
namespace Tk
open Ru
def numL (l : List Int) (k : Nat) : List UInt8 := (strOfNums (ascL l k)).data.toList
def nlen (l : List Int) (k : Nat) : Nat := Fx.len (numL l k)
def pv (t : List UInt8) : Int := if Fx.isDec t = true then Fx.num t else 0
def nval (l : List Int) (k : Nat) : Int := pv ((numL l k).take (nlen l k))
def numB (c : Int) : Bool := decide (c = 43 ∨ c = 45 ∨ c = 46 ∨ (48 <= c /\ c <= 57))
def symK (c : Int) : Int := if c = 40 ∨ c = 91 ∨ c = 123 then 12 else if c = 41 ∨ c = 93 ∨ c = 125 then 13 else 11
def rest (l : List Int) (k : Nat) : Int × ByteArray × Int × Nat :=
 if g l k = 64 /\ begs l (k + 1) = true then (4, str (name l (k + 1)).1, 0, (name l (k + 1)).2)
 else if begs l k = true then (if at' l (name l k).2 = 40 then (3, str (name l k).1, 0, (name l k).2 + 1) else (2, str (name l k).1, 0, (name l k).2))
 else if g l k = 58 then (14, ⟨#[]⟩, 0, k + 1)
 else if g l k = 59 then (15, ⟨#[]⟩, 0, k + 1)
 else if g l k = 44 then (16, ⟨#[]⟩, 0, k + 1)
 else (symK (g l k), str [g l k], 0, k + 1)
def nxt (l : List Int) (k : Nat) : Int × ByteArray × Int × Nat :=
 if g l k = 34 ∨ g l k = 39 then ((qq l (g l k) (k + 1)).1, str (qq l (g l k) (k + 1)).2.1, 0, (qq l (g l k) (k + 1)).2.2)
 else if g l k = 35 /\ (witB (at' l (k + 1)) = true ∨ esc l (k + 1) = true) then (5, str (name l (k + 1)).1, 0, (name l (k + 1)).2)
 else if numB (g l k) = true /\ 0 < nlen l k then
  (if begs l (k + nlen l k) = true then (10, str (name l (k + nlen l k)).1, nval l k, (name l (k + nlen l k)).2)
   else if at' l (k + nlen l k) = 37 then (9, ⟨#[]⟩, nval l k, k + nlen l k + 1) else (8, ⟨#[]⟩, nval l k, k + nlen l k))
 else rest l k
theorem numL_len (l : List Int) (k : Nat) : (numL l k).length <= l.length - k := by
 have h := ascL_len l k
 have h2 : (numL l k).length = (ascL l k).length := by
  unfold numL
  rw [<- Lib.size_eq, strOfNums_size]
 omega
theorem nlen_le (l : List Int) (k : Nat) (h : k <= l.length) : k + nlen l k <= l.length := by
 have h1 := Fx.len_hi (numL l k)
 have h2 := numL_len l k
 unfold nlen
 omega
theorem name_le (l : List Int) : ∀ (m k : Nat), l.length - k <= m -> k <= l.length -> k <= (name l k).2 /\ (name l k).2 <= l.length
 | m, k, hm, hk => by
   cases hI : inN l k
   ·rw [name_no hI]; exact ⟨Nat.le_refl _, hk⟩
   ·rw [name_yes hI]
    have ho := oneN_le hI
    have hlt := inN_lt hI
    match m, hm with
    | 0, hm => omega
    | m + 1, hm =>
      have ih := name_le l m (oneN l k).2 (by omega) ho.2
      simp only
      omega
theorem begs_num {l : List Int} {k : Nat} (hk : k < l.length) (h : numB (g l k) = true) (h2 : begs l k = true) : g l k = 45 := by
 unfold begs may esc at h2
 rw [at_in hk] at h2
 unfold numB at h
 unfold begB at h2
 have h3 := of_decide_eq_true h
 simp only [Bool.or_eq_true, Bool.and_eq_true, decide_eq_true_eq] at h2
 omega
theorem begs_not {l : List Int} {k : Nat} (hk : k < l.length) (h : g l k = 35 ∨ g l k = 58 ∨ g l k = 59 ∨ g l k = 44 ∨ g l k = 40 ∨ g l k = 91 ∨ g l k = 123 ∨ g l k = 41 ∨ g l k = 93 ∨ g l k = 125) : begs l k = false := by
 rw [Bool.eq_false_iff]
 intro h2
 unfold begs may esc at h2
 rw [at_in hk] at h2
 unfold begB at h2
 simp only [Bool.or_eq_true, Bool.and_eq_true, decide_eq_true_eq] at h2
 omega
theorem numB_no {c : Int} (h : numB c = false) : c ≠ 43 /\ c ≠ 45 /\ c ≠ 46 /\ (c < 48 ∨ 57 < c) := by
 have := of_decide_eq_false h
 omega
def Past (l : List Int) (k : Nat) : Prop := g l k ≠ 34 /\ g l k ≠ 39 /\ (g l k = 35 -> witB (at' l (k + 1)) = false /\ esc l (k + 1) = false) /\ (numB (g l k) = true -> nlen l k = 0)
theorem nxt_past {l : List Int} {k : Nat} (h : Past l k) : nxt l k = rest l k := by
 obtain ⟨h1, h2, h3, h4⟩ := h
 unfold nxt
 rw [if_neg (by omega), if_neg (fun h => by have := h3 h.1; rw [this.1, this.2] at h; simp at h), if_neg (fun h => by have := h4 h.1; omega)]
end Tk
end Go.Proofs.Ytaofkaehhikfaaa
namespace Go.Proofs.Ytaofkaehhikfaaa
namespace Tk
open Ru
theorem begs_in {l : List Int} {k : Nat} (h : begs l k = true) : inN l k = true := by
 unfold begs may at h
 unfold inN witB
 simp only [Bool.or_eq_true, Bool.and_eq_true, decide_eq_true_eq] at h ⊢
 rcases h with (h | h) | h
 ·exact .inr (.inl h)
 ·exact .inl h
 ·exact .inr (.inr (.inr h.1))
theorem name_gt {l : List Int} {k : Nat} (h : inN l k = true) : k < (name l k).2 /\ (name l k).2 <= l.length := by
 have ho := oneN_le h
 rw [name_yes h]
 have := name_le l _ (oneN l k).2 (Nat.le_refl _) ho.2
 simp only
 omega
theorem qq_le (l : List Int) (e : Int) : ∀ (m k : Nat), l.length + 1 - k <= m -> k <= l.length + 1 -> min k l.length <= (qq l e k).2.2 /\ (qq l e k).2.2 <= l.length
 | m, k, hm, hk => by
   by_cases h : k < l.length /\ g l k ≠ e
   ·rw [qq_step h]
    match m, hm with
    | 0, hm => omega
    | m + 1, hm =>
      split
      ·simp only; omega
      ·split
       ·rename_i he
        have hl := meant_le (esc_lt he).1
        have ih := qq_le l e m (meant l k).2 (by omega) (by omega)
        unfold push
        simp only
        omega
       ·split
        ·have ih := qq_le l e m (k + 2) (by omega) (by omega)
         omega
        ·have ih := qq_le l e m (k + 1) (by omega) (by omega)
         unfold push
         simp only
         omega
   ·rw [qq_end h]
    simp only
    omega
theorem rest_le {l : List Int} {k : Nat} (hk : k < l.length) : k < (rest l k).2.2.2 /\ (rest l k).2.2.2 <= l.length := by
 unfold rest
 split
 ·rename_i h
  have := name_gt (begs_in h.2)
  simp only; omega
 ·split
  ·rename_i h
   have := name_gt (begs_in h)
   split
   ·rename_i h40
    have := at_lt (l := l) (k := (name l k).2) (fun e => by rw [e] at h40; exact absurd h40 (by decide))
    simp only; omega
   ·simp only; omega
  ·split
   ·simp only; omega
   ·split
    ·simp only; omega
    ·split
     ·simp only; omega
     ·simp only; omega
theorem nxt_le {l : List Int} {k : Nat} (hk : k < l.length) : k < (nxt l k).2.2.2 /\ (nxt l k).2.2.2 <= l.length := by
 unfold nxt
 split
 ·have := qq_le l (g l k) _ (k + 1) (Nat.le_refl _) (by omega)
  simp only; omega
 ·split
  ·rename_i h
   have hin : inN l (k + 1) = true := by
    unfold inN
    rcases h.2 with h | h
    ·rw [h, Bool.or_true]
    ·rw [h, Bool.true_or]
   have := name_gt hin
   simp only; omega
  ·split
   ·rename_i h
    have hn := nlen_le l k (by omega)
    split
    ·rename_i h2
     have := name_gt (begs_in h2)
     simp only; omega
    ·split
     ·rename_i h37
      have := at_lt (l := l) (k := k + nlen l k) (fun e => by rw [e] at h37; exact absurd h37 (by decide))
      simp only; omega
     ·simp only; omega
   ·exact rest_le hk
def tokOf (r : Int × ByteArray × Int × Nat) : Tok := (r.1, r.2.1, r.2.2.1)
def spTok (b : Bool) : List Tok := if b = true then [(1, ⟨#[]⟩, 0)] else []
def scan (l : List Int) (k : Nat) : List Tok :=
 if _h : k < l.length then
  spTok (sp l k false).2 ++ (if _h2 : (sp l k false).1 < l.length then tokOf (nxt l (sp l k false).1) :: scan l (nxt l (sp l k false).1).2.2.2 else [])
 else []
termination_by l.length - k
decreasing_by
 have h1 := sp_le l k false (by omega)
 have h3 := nxt_le (by assumption)
 omega
theorem scan_on {l : List Int} {k : Nat} (h : k < l.length) (h2 : (sp l k false).1 < l.length) :
 scan l k = (spTok (sp l k false).2 ++ [tokOf (nxt l (sp l k false).1)]) ++ scan l (nxt l (sp l k false).1).2.2.2 := by
 rw [scan, dif_pos h, dif_pos h2, List.append_assoc]; rfl
theorem scan_last {l : List Int} {k : Nat} (h : k < l.length) (h2 : ¬ (sp l k false).1 < l.length) : scan l k = spTok (sp l k false).2 := by
 rw [scan, dif_pos h, dif_neg h2, List.append_nil]
theorem scan_end {l : List Int} {k : Nat} (h : ¬ k < l.length) : scan l k = [] := by
 rw [scan, dif_neg h]
theorem spTok_len (b : Bool) : (spTok b).length <= 1 := by
 unfold spTok; split <;> simp
theorem scan_len (l : List Int) : ∀ (m k : Nat), l.length - k <= m -> (scan l k).length <= 2 * (l.length - k)
 | m, k, hm => by
   by_cases h : k < l.length
   ·have h1 := sp_le l k false (by omega)
    have h5 := spTok_len (sp l k false).2
    by_cases h2 : (sp l k false).1 < l.length
    ·have h3 := nxt_le (by assumption)
     rw [scan_on h h2]
     match m, hm with
     | 0, hm => omega
     | m + 1, hm =>
       have ih := scan_len l m (nxt l (sp l k false).1).2.2.2 (by omega)
       simp only [List.length_append, List.length_cons, List.length_nil]
       omega
    ·rw [scan_last h h2]; omega
   ·rw [scan_end h]; simp
end Tk
end Go.Proofs.Ytaofkaehhikfaaa
namespace Go.Proofs.Ytaofkaehhikfaaa
namespace Fx
theorem at_take (l : List UInt8) {k i : Nat} (h : i < k) : at' (l.take k) i = at' l i := by
 unfold at'; rw [List.getD_eq_getElem?_getD, List.getD_eq_getElem?_getD, List.getElem?_take_of_lt h]
theorem at_take_past (l : List UInt8) {k i : Nat} (h : k <= i) : at' (l.take k) i = 0 := by
 apply at_zero; rw [List.length_take]; omega
theorem sgn_take (l : List UInt8) {k i : Nat} (h : i < k) : sgn (l.take k) i = sgn l i := by
 unfold sgn; rw [at_take l h]
theorem sgn_take_past (l : List UInt8) {k i : Nat} (h : k <= i) : sgn (l.take k) i = i := by
 unfold sgn; rw [at_take_past l h]; exact if_neg (by decide)
theorem dig_past {l : List UInt8} {a : Nat} (h : l.length <= a) : dig l a = a := dig_no l a (by rw [at_zero (by omega)]; exact isD_zero)
theorem dig_take (l : List UInt8) (k : Nat) : ∀ n a, n = k - a -> a <= k -> dig (l.take k) a = min (dig l a) k := by
 intro n
 induction n with
 | zero =>
   intro a hn ha
   have h0 : a = k := by omega
   subst h0
   rw [dig_past (by rw [List.length_take]; omega)]
   have := dig_lo l a; omega
 | succ n ih =>
   intro a hn ha
   have hlt : a < k := by omega
   cases hd : isD (at' l a)
   ·rw [dig_no (l.take k) a (by rw [at_take l hlt]; exact hd), dig_no l a hd]; omega
   ·rw [dig_yes (l.take k) a (by rw [at_take l hlt]; exact hd), dig_yes l a hd]
    exact ih (a + 1) (by omega) (by omega)
theorem dig_take' (l : List UInt8) {k a : Nat} (h : a <= k) : dig (l.take k) a = min (dig l a) k := dig_take l k _ a rfl h
theorem len_take {l : List UInt8} {k : Nat} (h : k <= l.length) : (l.take k).length = k := by rw [List.length_take]; omega
theorem spS_take (l : List UInt8) {k : Nat} (h : 0 < k) : spS (l.take k) = spS l := sgn_take l h
theorem spW_take (l : List UInt8) {k : Nat} (h : 0 < k) : spW (l.take k) = min (spW l) k := by
 have h1 := spS_one l
 have e : spW (l.take k) = dig (l.take k) (spS (l.take k)) := rfl
 rw [e, spS_take l h, dig_take' l (by omega)]; rfl
theorem len_pos {l : List UInt8} (h : spD l ≠ spS l) : len l = spE l := by unfold len; rw [if_neg h]
theorem spDof_is (l : List UInt8) (w : Nat) : (at' l w = 46 /\ w + 1 < dig l (w + 1) /\ spDof l w = dig l (w + 1)) ∨ (¬ (at' l w = 46 /\ w + 1 < dig l (w + 1)) /\ spDof l w = w) := by
 unfold spDof
 by_cases h : at' l w = 46 /\ w + 1 < dig l (w + 1)
 ·rw [if_pos h]; exact Or.inl ⟨h.1, h.2, rfl⟩
 ·rw [if_neg h]; exact Or.inr ⟨h, rfl⟩
theorem spEof_is (l : List UInt8) (d : Nat) : ((at' l d = 101 ∨ at' l d = 69) /\ sgn l (d + 1) < dig l (sgn l (d + 1)) /\ spEof l d = dig l (sgn l (d + 1))) ∨ (¬ ((at' l d = 101 ∨ at' l d = 69) /\ sgn l (d + 1) < dig l (sgn l (d + 1))) /\ spEof l d = d) := by
 unfold spEof
 by_cases h : (at' l d = 101 ∨ at' l d = 69) /\ sgn l (d + 1) < dig l (sgn l (d + 1))
 ·rw [if_pos h]; exact Or.inl ⟨h.1, h.2, rfl⟩
 ·rw [if_neg h]; exact Or.inr ⟨h, rfl⟩
theorem begins_no {l : List UInt8} {k : Nat} (hk : k <= l.length) (hl : len l < k) : isDec (l.take k) = false := by
 cases hd : isDec (l.take k)
 ·rfl
 exfalso
 obtain ⟨hn, hE⟩ := isDec_of hd
 rw [len_take hk] at hE
 have k0 : 0 < k := by omega
 have eS := spS_take l k0
 have eW := spW_take l k0
 have l1 := spW_lo l
 have l2 := spD_lo l
 have l3 := spE_lo l
 have s1 := spS_one l
 rw [eS] at hn
 have fin : spD l ≠ spS l -> spE l < k := fun h => by rw [len_pos h] at hl; exact hl
 have dD : spD (l.take k) = spDof (l.take k) (spW (l.take k)) := rfl
 have dE : spE (l.take k) = spEof (l.take k) (spD (l.take k)) := rfl
 by_cases hW : k <= spW l
 ·rw [show min (spW l) k = k by omega] at eW
  rw [eW] at dD
  have e1 : spDof (l.take k) k = k := by
   rcases spDof_is (l.take k) k with ⟨h, _⟩ | ⟨_, h⟩
   ·rw [at_take_past l (Nat.le_refl _)] at h; exact absurd h (by decide)
   ·exact h
  have : spD l ≠ spS l := by omega
  have := fin this
  omega
 ·rw [show min (spW l) k = spW l by omega] at eW
  rw [eW] at dD
  -- the part behind the point
  have hcase : (spD (l.take k) = k /\ k <= spD l) ∨ (spD (l.take k) = spD l /\ spD l < k) ∨ (spD (l.take k) = spW l /\ at' l (spW l) = 46) := by
   have d0 : spD l = spDof l (spW l) := rfl
   rcases spDof_is (l.take k) (spW l) with ⟨a1, a2, a3⟩ | ⟨a1, a2⟩
   ·rw [at_take l (by omega)] at a1
    rw [dig_take' l (by omega)] at a2 a3
    rcases spDof_is l (spW l) with ⟨_, b2, b3⟩ | ⟨b1, _⟩
    ·by_cases hg : k <= dig l (spW l + 1)
     ·left; omega
     ·right; left; omega
    ·exact absurd ⟨a1, by omega⟩ b1
   ·by_cases a46 : at' l (spW l) = 46
    ·right; right; exact ⟨by omega, a46⟩
    ·right; left
     rcases spDof_is l (spW l) with ⟨b1, _⟩ | ⟨_, b2⟩
     ·exact absurd b1 a46
     ·omega
  rcases hcase with ⟨c1, c2⟩ | ⟨c1, c2⟩ | ⟨c1, c2⟩
  ·have : spD l ≠ spS l := by omega
   have := fin this
   omega
  ·have hne : spD l ≠ spS l := by omega
   have hE2 := fin hne
   rw [c1] at dE
   have d0 : spE l = spEof l (spD l) := rfl
   rcases spEof_is (l.take k) (spD l) with ⟨a1, a2, a3⟩ | ⟨_, a2⟩
   ·rw [at_take l c2] at a1
    by_cases h1 : spD l + 1 < k
    ·rw [sgn_take l h1] at a2 a3
     have hs : sgn l (spD l + 1) <= spD l + 2 := by unfold sgn; split <;> omega
     rw [dig_take' l (by omega)] at a2 a3
     rcases spEof_is l (spD l) with ⟨_, b2, b3⟩ | ⟨b1, _⟩
     ·omega
     ·exact absurd ⟨a1, by omega⟩ b1
    ·rw [sgn_take_past l (by omega), dig_past (by rw [len_take hk]; omega)] at a2
     omega
   ·omega
  ·rw [c1] at dE
   have : spEof (l.take k) (spW l) = spW l := by
    rcases spEof_is (l.take k) (spW l) with ⟨a1, _⟩ | ⟨_, a2⟩
    ·rw [at_take l (by omega), c2] at a1
     exact absurd a1 (by decide)
    ·exact a2
   omega
theorem begins_yes {l : List UInt8} (h0 : 0 < len l) : isDec (l.take (len l)) = true := by
 have hn : spD l ≠ spS l := by
  intro h
  unfold len at h0; rw [if_pos h] at h0; omega
 rw [len_pos hn] at *
 have hk := spE_hi l
 have eS := spS_take l h0
 have eW := spW_take l h0
 have l1 := spW_lo l
 have l2 := spD_lo l
 have l3 := spE_lo l
 have s1 := spS_one l
 generalize hkk : spE l = k at *
 rw [show min (spW l) k = spW l by omega] at eW
 have dD : spD (l.take k) = spDof (l.take k) (spW (l.take k)) := rfl
 have dE : spE (l.take k) = spEof (l.take k) (spD (l.take k)) := rfl
 rw [eW] at dD
 have d0 : spD l = spDof l (spW l) := rfl
 have e0 : k = spEof l (spD l) := hkk.symm
 have eD : spD (l.take k) = spD l := by
  rcases spDof_is l (spW l) with ⟨b1, b2, b3⟩ | ⟨b1, b2⟩
  ·rcases spDof_is (l.take k) (spW l) with ⟨_, _, a3⟩ | ⟨a1, _⟩
   ·rw [dig_take' l (by omega)] at a3; omega
   ·exact absurd ⟨(at_take l (by omega)).trans b1, by rw [dig_take' l (by omega)]; omega⟩ a1
  ·rcases spDof_is (l.take k) (spW l) with ⟨a1, a2, _⟩ | ⟨_, a2⟩
   ·exfalso
    by_cases hw : spW l < k
    ·rw [at_take l hw] at a1
     rw [dig_take' l (by omega)] at a2
     exact b1 ⟨a1, by omega⟩
    ·rw [at_take_past l (by omega)] at a1
     exact absurd a1 (by decide)
   ·omega
 rw [eD] at dE
 have eE : spE (l.take k) = k := by
  rcases spEof_is l (spD l) with ⟨b1, b2, b3⟩ | ⟨_, b2⟩
  ·have g1 := sgn_lo l (spD l + 1)
   rcases spEof_is (l.take k) (spD l) with ⟨_, _, a3⟩ | ⟨a1, _⟩
   ·rw [sgn_take l (by omega), dig_take' l (by omega)] at a3; omega
   ·exact absurd ⟨by rw [at_take l (by omega)]; exact b1, by rw [sgn_take l (by omega), dig_take' l (by omega)]; omega⟩ a1
  ·rcases spEof_is (l.take k) (spD l) with ⟨a1, _⟩ | ⟨_, a2⟩
   ·rw [at_take_past l (by omega)] at a1
    exact absurd a1 (by decide)
   ·omega
 unfold isDec
 apply decide_eq_true
 unfold len
 rw [if_neg (by rw [eD, eS]; exact hn), eE, len_take hk]
 exact ⟨by omega, rfl⟩
end Fx
end Go.Proofs.Ytaofkaehhikfaaa
namespace Go.Proofs.Ytaofkaehhikfaaa
namespace Fx
def Ends (L : List UInt8) (m : Nat) : Prop := at' L m = 128 ∨ at' L m = 0
theorem ends_isD {L : List UInt8} {m : Nat} (h : Ends L m) : isD (at' L m) = false := by rcases h with h | h <;> rw [h] <;> decide
theorem ends_ne {L : List UInt8} {m : Nat} (h : Ends L m) {c : UInt8} (h1 : c ≠ 128) (h2 : c ≠ 0) : at' L m ≠ c := by
 rcases h with h | h <;> rw [h]
 ·exact fun e => h1 e.symm
 ·exact fun e => h2 e.symm
theorem dig_stop {L : List UInt8} {m : Nat} (h : Ends L m) : ∀ n a, n = m - a -> a <= m -> dig L a <= m
 | 0, a, hn, ha => by
   have : a = m := by omega
   subst this
   rw [dig_no L a (ends_isD h)]; exact Nat.le_refl _
 | n + 1, a, hn, ha => by
   cases hd : isD (at' L a)
   ·rw [dig_no L a hd]; exact ha
   ·have hne : a ≠ m := fun e => by rw [e, ends_isD h] at hd; cases hd
    rw [dig_yes L a hd]
    exact dig_stop h n (a + 1) (by omega) (by omega)
theorem dig_cut {L : List UInt8} {m a : Nat} (h : Ends L m) (ha : a <= m) : dig (L.take m) a = dig L a := by
 rw [dig_take' L ha]
 have := dig_stop h _ a rfl ha
 omega
theorem at_cut {L : List UInt8} {m a : Nat} (h : Ends L m) (ha : a <= m) {c : UInt8} (h1 : c ≠ 128) (h2 : c ≠ 0) : at' (L.take m) a = c ↔ at' L a = c := by
 by_cases hlt : a < m
 ·rw [at_take L hlt]
 ·have : a = m := by omega
  subst this
  rw [at_take_past L (Nat.le_refl _)]
  exact ⟨fun e => absurd e.symm h2, fun e => absurd e (ends_ne h h1 h2)⟩
theorem sgn_cut {L : List UInt8} {m a : Nat} (h : Ends L m) (ha : a <= m) : sgn (L.take m) a = sgn L a /\ sgn L a <= m := by
 unfold sgn
 have e1 := at_cut h ha (c := 43) (by decide) (by decide)
 have e2 := at_cut h ha (c := 45) (by decide) (by decide)
 by_cases c : at' L a = 43 ∨ at' L a = 45
 ·rw [if_pos c, if_pos (by rw [e1, e2]; exact c)]
  refine ⟨rfl, ?_⟩
  by_cases hlt : a < m
  ·omega
  ·have : a = m := by omega
   subst this
   rcases c with c | c
   ·exact absurd c (ends_ne h (by decide) (by decide))
   ·exact absurd c (ends_ne h (by decide) (by decide))
 ·rw [if_neg c, if_neg (by rw [e1, e2]; exact c)]
  exact ⟨rfl, ha⟩
theorem spDof_cut {L : List UInt8} {m w : Nat} (h : Ends L m) (hw : w <= m) : spDof (L.take m) w = spDof L w /\ spDof L w <= m := by
 have e1 := at_cut h hw (c := 46) (by decide) (by decide)
 by_cases c : at' L w = 46
 ·have hlt : w < m := by
   by_cases hlt : w < m
   ·exact hlt
   ·have : w = m := by omega
    subst this
    exact absurd c (ends_ne h (by decide) (by decide))
  have e2 := dig_cut h (show w + 1 <= m by omega)
  have e3 := dig_stop h _ (w + 1) rfl (by omega)
  unfold spDof
  by_cases c2 : w + 1 < dig L (w + 1)
  ·rw [if_pos ⟨e1.2 c, by rw [e2]; exact c2⟩, if_pos ⟨c, c2⟩, e2]; exact ⟨rfl, e3⟩
  ·rw [if_neg (fun hh => c2 (by rw [<- e2]; exact hh.2)), if_neg (fun hh => c2 hh.2)]; exact ⟨rfl, hw⟩
 ·unfold spDof
  rw [if_neg (fun hh => c (e1.1 hh.1)), if_neg (fun hh => c hh.1)]
  exact ⟨rfl, hw⟩
theorem spEof_cut {L : List UInt8} {m d : Nat} (h : Ends L m) (hd : d <= m) : spEof (L.take m) d = spEof L d /\ spEof L d <= m := by
 have e1 := at_cut h hd (c := 101) (by decide) (by decide)
 have e2 := at_cut h hd (c := 69) (by decide) (by decide)
 by_cases c : at' L d = 101 ∨ at' L d = 69
 ·have hlt : d < m := by
   by_cases hlt : d < m
   ·exact hlt
   ·have : d = m := by omega
    subst this
    rcases c with c | c
    ·exact absurd c (ends_ne h (by decide) (by decide))
    ·exact absurd c (ends_ne h (by decide) (by decide))
  have e3 := sgn_cut h (show d + 1 <= m by omega)
  have e4 := dig_cut h e3.2
  have e5 := dig_stop h _ (sgn L (d + 1)) rfl e3.2
  have c' : at' (L.take m) d = 101 ∨ at' (L.take m) d = 69 := by rw [e1, e2]; exact c
  unfold spEof
  rw [e3.1, e4]
  by_cases c2 : sgn L (d + 1) < dig L (sgn L (d + 1))
  ·rw [if_pos ⟨c', c2⟩, if_pos ⟨c, c2⟩]; exact ⟨rfl, e5⟩
  ·rw [if_neg (fun hh => c2 hh.2), if_neg (fun hh => c2 hh.2)]; exact ⟨rfl, hd⟩
 ·unfold spEof
  rw [if_neg (fun hh => c (by have := hh.1; rw [e1, e2] at this; exact this)), if_neg (fun hh => c hh.1)]
  exact ⟨rfl, hd⟩
theorem len_cut {L : List UInt8} {m : Nat} (h : Ends L m) : len (L.take m) = len L /\ len L <= m := by
 have s := sgn_cut h (Nat.zero_le m)
 have w := dig_cut h s.2
 have w2 := dig_stop h _ (sgn L 0) rfl s.2
 have d := spDof_cut h w2
 have e := spEof_cut h d.2
 have es : spS (L.take m) = spS L := s.1
 have ew : spW (L.take m) = spW L := by unfold spW; rw [es]; exact w
 have ed : spD (L.take m) = spD L := by unfold spD; rw [ew]; exact d.1
 have ee : spE (L.take m) = spE L := by unfold spE; rw [ed]; exact e.1
 unfold len
 rw [es, ed, ee]
 refine ⟨rfl, ?_⟩
 split
 ·omega
 ·exact e.2
end Fx
namespace Tk
open Ru
def p8 (c : Int) : UInt8 := UInt8.ofNat (min c 128).toNat
theorem p8_lt {c : Int} (h : c < 128) : p8 c = u8 c := by unfold p8 u8; rw [show min c 128 = c by omega]
theorem p8_ge {c : Int} (h : ¬ c < 128) : p8 c = 128 := by unfold p8; rw [show min c 128 = 128 by omega]; rfl
theorem numL_eq (l : List Int) (k : Nat) : numL l k = (ascL l k).map u8 := by
 unfold numL strOfNums; simp [u8]
theorem ascL_take (m : List Int) : (m.takeWhile fun c => decide (c < 128)).map u8 = (m.map p8).take (m.takeWhile fun c => decide (c < 128)).length /\ Fx.Ends (m.map p8) (m.takeWhile fun c => decide (c < 128)).length := by
 induction m with
 | nil => exact ⟨rfl, .inr rfl⟩
 | cons a t ih =>
   by_cases h : a < 128
   ·rw [List.takeWhile_cons, decide_eq_true h, if_pos rfl]
    refine ⟨?_, ?_⟩
    ·rw [List.map_cons, List.map_cons, List.length_cons, List.take_succ_cons, p8_lt h, <- ih.1]
    ·have := ih.2
     unfold Fx.Ends Fx.at' at *
     rw [List.map_cons, List.length_cons, List.getD_cons_succ]
     exact this
   ·rw [List.takeWhile_cons, decide_eq_false h]
    refine ⟨rfl, .inl ?_⟩
    unfold Fx.at'
    rw [List.map_cons, p8_ge h]; rfl
theorem plain_len (l : List Int) (k : Nat) : Fx.len ((l.map p8).drop k) = nlen l k := by
 have h := ascL_take (l.drop k)
 unfold nlen
 rw [numL_eq, <- List.map_drop]
 show _ = Fx.len (((l.drop k).takeWhile fun c => decide (c < 128)).map u8)
 rw [h.1]
 exact (Fx.len_cut h.2).1.symm
theorem plain_val (l : List Int) (k : Nat) : pv (((l.map p8).drop k).take (nlen l k)) = nval l k := by
 have h := ascL_take (l.drop k)
 have h2 := (Fx.len_cut h.2).2
 rw [List.map_drop, plain_len] at h2
 unfold nval
 rw [numL_eq]
 show _ = pv ((((l.drop k).takeWhile fun c => decide (c < 128)).map u8).take (nlen l k))
 rw [h.1, List.take_take, List.map_drop, Nat.min_eq_left h2]
theorem nlen_num {l : List Int} {k : Nat} (h : 0 < nlen l k) : k < l.length /\ numB (g l k) = true := by
 have hk : k < l.length := by
  have h1 := numL_len l k
  have h2 := Fx.len_hi (numL l k)
  unfold nlen at h
  omega
 refine ⟨hk, ?_⟩
 rw [<- plain_len] at h
 have e : Fx.at' ((l.map p8).drop k) 0 = p8 (g l k) := by
  unfold Fx.at'
  rw [<- List.map_drop, List.drop_eq_getElem_cons hk, List.map_cons, g_eq hk]; rfl
 generalize (l.map p8).drop k = L at *
 unfold numB
 apply decide_eq_true
 have hne : Fx.spD L ≠ Fx.spS L := fun hh => by unfold Fx.len at h; rw [if_pos hh] at h; omega
 have key : Fx.at' L 0 = 43 ∨ Fx.at' L 0 = 45 ∨ Fx.at' L 0 = 46 ∨ Fx.isD (Fx.at' L 0) = true := by
  by_cases h1 : Fx.at' L 0 = 43
  ·exact .inl h1
  by_cases h2 : Fx.at' L 0 = 45
  ·exact .inr (.inl h2)
  by_cases h3 : Fx.at' L 0 = 46
  ·exact .inr (.inr (.inl h3))
  cases hd : Fx.isD (Fx.at' L 0)
  ·exfalso
   apply hne
   have es : Fx.spS L = 0 := by unfold Fx.spS Fx.sgn; rw [if_neg (by rintro (e | e); exact h1 e; exact h2 e)]
   have ew : Fx.spW L = 0 := by unfold Fx.spW; rw [es, Fx.dig_no L 0 hd]
   unfold Fx.spD Fx.spDof
   rw [ew, es, if_neg (fun hh => h3 hh.1)]
  ·exact .inr (.inr (.inr rfl))
 rw [e] at key
 by_cases hc : g l k < 128
 ·rw [p8_lt hc] at key
  by_cases h0 : 0 <= g l k
  ·have ht : (u8 (g l k)).toNat = (g l k).toNat := by unfold u8; rw [UInt8.toNat_ofNat']; omega
   rcases key with h | h | h | h
   ·rw [h] at ht; have : (43 : UInt8).toNat = 43 := rfl; omega
   ·rw [h] at ht; have : (45 : UInt8).toNat = 45 := rfl; omega
   ·rw [h] at ht; have : (46 : UInt8).toNat = 46 := rfl; omega
   ·unfold Fx.isD at h; have := of_decide_eq_true h; omega
  ·have : u8 (g l k) = 0 := by unfold u8; rw [show (g l k).toNat = 0 by omega]; rfl
   rw [this] at key
   exfalso; revert key; decide
 ·rw [p8_ge hc] at key
  exfalso; revert key; decide
theorem at_lo {l : List Int} (h : ∀ c ∈ l, 0 <= c) (k : Nat) : -1 <= at' l k := by
 unfold at'
 split
 ·rename_i hk
  rw [g_eq hk]
  have := h _ (List.getElem_mem hk)
  omega
 ·omega
theorem at_neg {l : List Int} (h : ∀ c ∈ l, 0 <= c) {k : Nat} (hk : k < l.length) : 0 <= at' l k := by
 rw [at_in hk, g_eq hk]; exact h _ (List.getElem_mem hk)
theorem esc_code {l : List Int} (h : ∀ c ∈ l, 0 <= c) (k : Nat) : esc l k = (decide (at' l k = 92) && (decide (at' l (k + 1) ≠ 10) && decide (at' l (k + 1) ≠ -1))) := by
 have := at_lo h (k + 1)
 unfold esc
 rw [Bool.eq_iff_iff]
 simp only [Bool.and_eq_true, decide_eq_true_eq]
 omega
theorem begs_code (l : List Int) (k : Nat) : begs l k = if at' l k = 45 then (decide (at' l (k + 1) = 45) || may l (k + 1)) else may l k := by
 unfold begs
 by_cases h : at' l k = 45
 ·have hm : may l k = false := by
   unfold may esc
   rw [h]
   rfl
  rw [if_pos h, hm, decide_eq_true h, Bool.false_or, Bool.true_and, Bool.or_comm]
 ·rw [if_neg h, decide_eq_false h, Bool.false_and, Bool.or_false]
theorem qq_far (l : List Int) (e : Int) {k : Nat} (hk : l.length <= k) : qq l e k = (6, [], l.length) := by
 rw [qq_end (by omega), show min (k + 1) l.length = l.length by omega]
theorem qq_clamp {l : List Int} {e : Int} {k : Nat} : qq l e k = qq l e (min k l.length) := by
 by_cases h : k <= l.length
 ·rw [Nat.min_eq_left h]
 ·rw [qq_far l e (by omega), Nat.min_eq_right (by omega), qq_far l e (Nat.le_refl _)]
theorem sp_stop (l : List Int) : ∀ (m k : Nat) (b : Bool), l.length - k <= m -> k <= l.length -> whiB (at' l (sp l k b).1) = false /\ opn l (sp l k b).1 = false
 | m, k, b, hm, hk => by
   cases hw : whiB (at' l k)
   ·cases ho : opn l k
    ·rw [sp_no hw ho]; exact ⟨hw, ho⟩
    ·rw [sp_opn hw ho]
     have hc := cmt_le ho
     match m, hm with
     | 0, hm => omega
     | m + 1, hm => exact sp_stop l m _ b (by omega) hc.2
   ·rw [sp_white hw]
    have := whi_lt hw
    match m, hm with
    | 0, hm => omega
    | m + 1, hm => exact sp_stop l m _ true (by omega) (by omega)
theorem sp_gt {l : List Int} {k : Nat} {b : Bool} (h : whiB (at' l k) = true ∨ opn l k = true) : k < (sp l k b).1 := by
 cases hw : whiB (at' l k)
 ·rw [hw] at h
  have ho : opn l k = true := by
   rcases h with h | h
   ·cases h
   ·exact h
  rw [sp_opn hw ho]
  have hc := cmt_le ho
  have := sp_le l (cmt l k) b hc.2
  omega
 ·rw [sp_white hw]
  have hlt := whi_lt hw
  have := sp_le l (k + 1) true (by omega)
  omega
theorem sp_again {l : List Int} {k : Nat} (b c : Bool) (hk : k <= l.length) : sp l (sp l k b).1 c = ((sp l k b).1, c) := by
 have h := sp_stop l _ k b (Nat.le_refl _) hk
 exact sp_no h.1 h.2
theorem scan_gap {l : List Int} {k : Nat} (hk : k < l.length) : scan l k = spTok (sp l k false).2 ++ scan l (sp l k false).1 := by
 have h1 := sp_le l k false (by omega)
 have h2 := sp_again false false (show k <= l.length by omega)
 by_cases h : (sp l k false).1 < l.length
 ·rw [scan_on hk h, List.append_assoc]
  congr 1
  have h3 := scan_on h (by rw [h2]; exact h)
  rw [h3, h2]; rfl
 ·rw [scan_last hk h, scan_end h, List.append_nil]
theorem scan_tok {l : List Int} {k : Nat} (hk : k < l.length) (hw : whiB (at' l k) = false) (ho : opn l k = false) : scan l k = tokOf (nxt l k) :: scan l (nxt l k).2.2.2 := by
 have h := sp_no (b := false) hw ho
 have h2 := scan_on hk (by rw [h]; exact hk)
 rw [h2, h]; rfl
end Tk
end Go.Proofs.Ytaofkaehhikfaaa
namespace Go.Proofs.Ytaofkaehhikfaaa
open Go.RowKit
namespace Vl
open Tk Ns
abbrev vwS : ByteArray := ⟨#[99, 111, 117, 110, 116, 101, 114, 40, 99, 44, 32, 108, 111, 119, 101, 114, 45, 114, 111, 109, 97, 110, 41, 32, 39, 32, 111, 102, 32, 39, 32, 99, 111, 117, 110, 116, 101, 114, 40, 112, 97, 103, 101, 115, 41]⟩
def vwB : List Int := [99, 111, 117, 110, 116, 101, 114, 40, 99, 44, 32, 108, 111, 119, 101, 114, 45, 114, 111, 109, 97, 110, 41, 32, 39, 32, 111, 102, 32, 39, 32, 99, 111, 117, 110, 116, 101, 114, 40, 112, 97, 103, 101, 115, 41]
def vwT : List Tok := [(3, ⟨#[99, 111, 117, 110, 116, 101, 114]⟩, 0), (2, ⟨#[99]⟩, 0), (16, ⟨#[]⟩, 0), (1, ⟨#[]⟩, 0), (2, ⟨#[108, 111, 119, 101, 114, 45, 114, 111, 109, 97, 110]⟩, 0), (13, ⟨#[41]⟩, 0), (1, ⟨#[]⟩, 0), (6, ⟨#[32, 111, 102, 32]⟩, 0), (1, ⟨#[]⟩, 0), (3, ⟨#[99, 111, 117, 110, 116, 101, 114]⟩, 0), (2, ⟨#[112, 97, 103, 101, 115]⟩, 0), (13, ⟨#[41]⟩, 0)]
theorem vwB_is : Ru.bs vwS = vwB := by decide +kernel
theorem vwB_rd : Ru.rd vwB = vwB := by decide +kernel
theorem vwn0 : nxt vwB 0 = (3, ⟨#[99, 111, 117, 110, 116, 101, 114]⟩, 0, 8) := by decide +kernel
theorem vwn1 : nxt vwB 8 = (2, ⟨#[99]⟩, 0, 9) := by decide +kernel
theorem vwn2 : nxt vwB 9 = (16, ⟨#[]⟩, 0, 10) := by decide +kernel
theorem vws3 : Tk.sp vwB 10 false = (11, true) := by decide +kernel
theorem vwn4 : nxt vwB 11 = (2, ⟨#[108, 111, 119, 101, 114, 45, 114, 111, 109, 97, 110]⟩, 0, 22) := by decide +kernel
theorem vwn5 : nxt vwB 22 = (13, ⟨#[41]⟩, 0, 23) := by decide +kernel
theorem vws6 : Tk.sp vwB 23 false = (24, true) := by decide +kernel
theorem vwn7 : nxt vwB 24 = (6, ⟨#[32, 111, 102, 32]⟩, 0, 30) := by decide +kernel
theorem vws8 : Tk.sp vwB 30 false = (31, true) := by decide +kernel
theorem vwn9 : nxt vwB 31 = (3, ⟨#[99, 111, 117, 110, 116, 101, 114]⟩, 0, 39) := by decide +kernel
theorem vwn10 : nxt vwB 39 = (2, ⟨#[112, 97, 103, 101, 115]⟩, 0, 44) := by decide +kernel
theorem vwn11 : nxt vwB 44 = (13, ⟨#[41]⟩, 0, 45) := by decide +kernel
theorem vw_scan : scan (Ru.rd (Ru.bs vwS)) 0 = vwT := by
 rw [vwB_is, vwB_rd]
 rw [scan_tok (k := 0) (by decide) (by decide +kernel) (by decide +kernel), vwn0]
 rw [scan_tok (k := 8) (by decide) (by decide +kernel) (by decide +kernel), vwn1]
 rw [scan_tok (k := 9) (by decide) (by decide +kernel) (by decide +kernel), vwn2]
 rw [scan_gap (k := 10) (by decide), vws3]
 rw [scan_tok (k := 11) (by decide) (by decide +kernel) (by decide +kernel), vwn4]
 rw [scan_tok (k := 22) (by decide) (by decide +kernel) (by decide +kernel), vwn5]
 rw [scan_gap (k := 23) (by decide), vws6]
 rw [scan_tok (k := 24) (by decide) (by decide +kernel) (by decide +kernel), vwn7]
 rw [scan_gap (k := 30) (by decide), vws8]
 rw [scan_tok (k := 31) (by decide) (by decide +kernel) (by decide +kernel), vwn9]
 rw [scan_tok (k := 39) (by decide) (by decide +kernel) (by decide +kernel), vwn10]
 rw [scan_tok (k := 44) (by decide) (by decide +kernel) (by decide +kernel), vwn11]
 rw [scan_end (k := 45) (by decide)]
 rfl
abbrev vrS : ByteArray := ⟨#[114, 101, 99, 116, 111]⟩
def vrB : List Int := [114, 101, 99, 116, 111]
theorem vrB_is : Ru.bs vrS = vrB := by decide +kernel
theorem vrB_rd : Ru.rd vrB = vrB := by decide +kernel
theorem vrn : nxt vrB 0 = (2, vrS, 0, 5) := by decide +kernel
theorem vr_scan : scan (Ru.rd (Ru.bs vrS)) 0 = [(2, vrS, 0)] := by
 rw [vrB_is, vrB_rd]
 rw [scan_tok (k := 0) (by decide) (by decide +kernel) (by decide +kernel), vrn]
 rw [scan_end (k := 5) (by decide)]
 rfl
theorem short_deep {L : List Tok} (h : L.length <= 64) : ¬ deep L := by
 rintro ⟨k, hk, h2⟩
 have := opn_len L (k + 1)
 omega
def vwL : List Tok := [(3, ⟨#[99, 111, 117, 110, 116, 101, 114]⟩, 0), (2, ⟨#[99]⟩, 0), (16, ⟨#[]⟩, 0), (2, ⟨#[108, 111, 119, 101, 114, 45, 114, 111, 109, 97, 110]⟩, 0), (13, ⟨#[41]⟩, 0), (6, ⟨#[32, 111, 102, 32]⟩, 0), (3, ⟨#[99, 111, 117, 110, 116, 101, 114]⟩, 0), (2, ⟨#[112, 97, 103, 101, 115]⟩, 0), (13, ⟨#[41]⟩, 0)]
theorem vw_rd : rd vwT = vwL := by
 unfold rd
 have e : F vwT = vwL := by decide +kernel
 rw [e, if_neg (short_deep (by decide))]
theorem vw_parts : parts vwL = some [((3, ⟨#[99, 111, 117, 110, 116, 101, 114]⟩, 0), [(2, ⟨#[99]⟩, 0), (16, ⟨#[]⟩, 0), (2, ⟨#[108, 111, 119, 101, 114, 45, 114, 111, 109, 97, 110]⟩, 0)]), ((6, ⟨#[32, 111, 102, 32]⟩, 0), []), ((3, ⟨#[99, 111, 117, 110, 116, 101, 114]⟩, 0), [(2, ⟨#[112, 97, 103, 101, 115]⟩, 0)])] := by
 unfold vwL
 rw [parts_open (by decide) (by rfl), parts_plain (by decide), parts_open (by decide) (by rfl), parts_nil]
 rfl
theorem vw_content : rcontent vwT = ([(2, ⟨#[]⟩, ⟨#[99]⟩, 2, 0), (1, ⟨#[32, 111, 102, 32]⟩, ⟨#[]⟩, 0, 0), (2, ⟨#[]⟩, ⟨#[112, 97, 103, 101, 115]⟩, 0, 0)], false, true) := by
 rw [<- content_same, vw_rd]
 unfold contentS
 rw [if_neg (by decide), vw_parts]
 have e : (Option.bind (some [((3, ⟨#[99, 111, 117, 110, 116, 101, 114]⟩, 0), [(2, ⟨#[99]⟩, 0), (16, ⟨#[]⟩, 0), (2, ⟨#[108, 111, 119, 101, 114, 45, 114, 111, 109, 97, 110]⟩, 0)]), ((6, ⟨#[32, 111, 102, 32]⟩, 0), []), ((3, ⟨#[99, 111, 117, 110, 116, 101, 114]⟩, 0), [(2, ⟨#[112, 97, 103, 101, 115]⟩, 0)])]) (its false)) = some [(2, ⟨#[]⟩, ⟨#[99]⟩, 2, 0), (1, ⟨#[32, 111, 102, 32]⟩, ⟨#[]⟩, 0, 0), (2, ⟨#[]⟩, ⟨#[112, 97, 103, 101, 115]⟩, 0, 0)] := by decide +kernel
 rw [e]
theorem vr_break : breakS (rd [(2, vrS, 0)]) = some 4 := by
 have e : rd [(2, vrS, 0)] = [(2, vrS, 0)] := by
  unfold rd
  have e : F [(2, vrS, 0)] = [(2, vrS, 0)] := by decide +kernel
  rw [e, if_neg (short_deep (by decide))]
 rw [e]
 decide +kernel
theorem vu_style : sty (Ru.lowS ⟨#[85, 112, 112, 101, 114, 45, 76, 97, 116, 105, 110]⟩) = 5 := by decide +kernel
end Vl
namespace Tk
def pushes (ds : List Int) (r : Int × List Int × Nat) : Int × List Int × Nat := (r.1, ds ++ r.2.1, r.2.2)
end Tk
def QuoAt (l : List Int) (e : Int) (k0 : Nat) (w : World) (v1 v7 : Value) (wr : World) : Prop :=
 ∃ (k : Nat) (ds : List Int), k <= l.length + 1 /\ v1 = .int .i64 k /\ Hid (Tk.qq l e k0 = Tk.pushes ds (Tk.qq l e k)) /\ wr.ownsRow (w.heap.size + 1) 3 1 v7 ds.length (nums .i64 ds) /\ Hid (Below (w.heap.size + 1) (w.alloc zeroTok) wr) /\ ds.length <= k
def Tokened (kind : Int) (t : ByteArray) (n : Int) (k : Nat) (w : World) (e : Ending) (w' : World) : Prop := e = .returned (.tuple #[tokV kind t n, .int .i64 k]) /\ Below w.heap.size w w'
theorem zero_size (w : World) : (w.alloc zeroTok).heap.size = w.heap.size + 1 := by simp
theorem quo_below {w wr w2 : World} (h : Below (w.heap.size + 1) (w.alloc zeroTok) wr) (h2 : Below wr.heap.size wr w2) : Below (w.heap.size + 1) (w.alloc zeroTok) w2 :=
 h.trans (h2.mono (by have := h.size; rw [zero_size] at this; exact this))
theorem tok_cells {w w2 : World} (h : Below (w.heap.size + 1) (w.alloc zeroTok) w2) :
 w2.cell? ⟨w.heap.size, 0, none⟩ = some (.int .i64 0) /\ w2.cell? ⟨w.heap.size, 1, none⟩ = some (.string ⟨#[]⟩) /\ w2.cell? ⟨w.heap.size, 2, none⟩ = some (.int .i64 0) /\
 w2.frozen? ⟨w.heap.size, 0, none⟩ = false /\ w2.frozen? ⟨w.heap.size, 1, none⟩ = false /\ w2.frozen? ⟨w.heap.size, 2, none⟩ = false := by
 have hc : ∀ j, w2.cell? ⟨w.heap.size, j, none⟩ = (w.alloc zeroTok).cell? ⟨w.heap.size, j, none⟩ := fun j => h.cell (p := ⟨w.heap.size, j, none⟩) (Nat.lt_succ_self _)
 have hf : ∀ j, w2.frozen? ⟨w.heap.size, j, none⟩ = (w.alloc zeroTok).frozen? ⟨w.heap.size, j, none⟩ := fun j => h.frozen (p := ⟨w.heap.size, j, none⟩) (Nat.lt_succ_self _)
 rw [hc, hc, hc, hf, hf, hf]
 unfold zeroTok
 refine ⟨?_, ?_, ?_, ?_, ?_, ?_⟩
 ·rw [World.cell?_alloc_mark]; rfl
 ·rw [World.cell?_alloc_mark]; rfl
 ·rw [World.cell?_alloc_mark]; rfl
 ·rw [World.frozen?_alloc_mark]; rfl
 ·rw [World.frozen?_alloc_mark]; rfl
 ·rw [World.frozen?_alloc_mark]; rfl
theorem tok_below {w w2 : World} (h : Below (w.heap.size + 1) (w.alloc zeroTok) w2) (x y z : Value) :
 Below w.heap.size w (((w2.setCell ⟨w.heap.size, 0, none⟩ x).setCell ⟨w.heap.size, 1, none⟩ y).setCell ⟨w.heap.size, 2, none⟩ z) :=
 (((((Below.refl _ w).alloc (Nat.le_refl _) _).trans (h.mono (Nat.le_succ _))).setCell (Nat.le_refl _) _).setCell (Nat.le_refl _) _).setCell (Nat.le_refl _) _
theorem quo_size {w wr : World} (h : Below (w.heap.size + 1) (w.alloc zeroTok) wr) : w.heap.size + 1 <= wr.heap.size := by have := h.size; rw [zero_size] at this; exact this
theorem quo_next {w wr w3 : World} {o : Obj} {k : IntKind} {E : TypeId} {v v' : Value} {ds : List Int} {x : Int} (hown : wr.ownsRow (w.heap.size + 1) E 1 v ds.length (nums k ds)) (hbel : Below (w.heap.size + 1) (w.alloc zeroTok) wr)
 (hown3 : w3.ownsRow (w.heap.size + 1) E 1 v' (ds.length + 1) (nums k ds ++ [.int k x])) (hgrow : (wr.alloc o).grownBy w3 v.ownBlock) :
 w3.ownsRow (w.heap.size + 1) E 1 v' (ds ++ [x]).length (nums k (ds ++ [x])) /\ Below (w.heap.size + 1) (w.alloc zeroTok) w3 := by
 refine ⟨?_, ?_⟩
 ·rw [nums_app, List.length_append]; exact hown3
 ·exact (hbel.alloc (quo_size hbel) o).grown hgrow (by have := quo_size hbel; simp; omega) (fun j hj => (hown.lt j hj).1)
theorem tok_ret {kind kind' n n' : Int} {t t' : ByteArray} {k k' : Int} (h1 : kind = kind') (h2 : t = t') (h3 : n = n') (h4 : k = k') : Ending.returned (.tuple #[tokV kind t n, .int .i64 k]) = .returned (.tuple #[tokV kind' t' n', .int .i64 k']) := by rw [h1, h2, h3, h4]
theorem ris_any (c : Int) (w : World) :
 Calls Try.prog 112 #[.int .i64 c] w fun e w' => e = .returned (.bool (Ru.isB c)) /\ w = w' := by
 by_cases a1 : 0 <= c <;> by_cases a2 : c <= 1114111 <;> by_cases a3 : c < 55296 <;> by_cases a4 : 57343 < c
 all_goals try omega
 all_goals
  go_enter Try.func112, Try.ntmps112
  go_wp2_with fail
  go_ret
  exact ⟨ret_bool (by unfold Ru.isB; simp; try omega), rfl⟩
theorem rbegins_any (c : Int) (w : World) :
 Calls Try.prog 106 #[.int .i64 c] w fun e w' => e = .returned (.bool (Ru.begB c)) /\ w = w' := by
 by_cases b1 : c = 95
 ·subst b1
  go_enter Try.func106, Try.ntmps106
  go_wp2_with fail
  go_ret
  exact ⟨rfl, rfl⟩
 ·have e1 := Ru.eq_f b1
  by_cases b2 : 128 <= c
  ·go_enter Try.func106, Try.ntmps106
   go_wp2_with (go_at_call 112; refine (ris_any _ _).mono ?_; rintro e w' ⟨rfl, rfl⟩)
   go_ret
   exact ⟨ret_bool (by unfold Ru.begB Ru.isB; rw [Bool.eq_iff_iff]; simp; omega), rfl⟩
  ·by_cases a1 : 97 <= c <;> by_cases a2 : c <= 122 <;> by_cases a3 : 65 <= c <;> by_cases a4 : c <= 90
   all_goals try omega
   all_goals
    go_enter Try.func106, Try.ntmps106
    go_wp2_with fail
    go_ret
    exact ⟨ret_bool (by unfold Ru.begB; simp; try omega), rfl⟩
theorem rwithin_any (c : Int) (w : World) :
 Calls Try.prog 95 #[.int .i64 c] w fun e w' => e = .returned (.bool (Ru.witB c)) /\ w = w' := by
 unfold Ru.witB
 cases hb : Ru.begB c
 ·by_cases b1 : c = 45
  ·subst b1
   go_enter Try.func95, Try.ntmps95
   go_wp2_with (go_at_call 106; refine (rbegins_any _ _).mono ?_; rintro e w' ⟨rfl, rfl⟩)
   go_ret
   exact ⟨rfl, rfl⟩
  ·have e1 := Ru.eq_f b1
   by_cases a1 : 48 <= c <;> by_cases a2 : c <= 57
   all_goals try omega
   all_goals
    go_enter Try.func95, Try.ntmps95
    go_wp2_with (go_at_call 106; refine (rbegins_any _ _).mono ?_; rintro e w' ⟨rfl, rfl⟩)
    go_ret
    exact ⟨ret_bool (by rw [Bool.eq_iff_iff]; simp; try omega), rfl⟩
 ·go_enter Try.func95, Try.ntmps95
  go_wp2_with (go_at_call 106; refine (rbegins_any _ _).mono ?_; rintro e w' ⟨rfl, rfl⟩)
  go_ret
  exact ⟨rfl, rfl⟩
theorem rhex_any (c : Int) (w : World) :
 Calls Try.prog 111 #[.int .i64 c] w fun e w' => e = .returned (.int .i64 (Ru.hexV c)) /\ w = w' := by
 by_cases b1 : 48 <= c <;> by_cases b2 : c <= 57 <;> by_cases a1 : 97 <= c <;> by_cases a2 : c <= 102 <;> by_cases a3 : 65 <= c <;> by_cases a4 : c <= 70
 all_goals try omega
 all_goals
  go_enter Try.func111, Try.ntmps111
  go_wp2_with fail
  go_ret
  exact ⟨ret_int (by unfold Ru.hexV; omega), rfl⟩
def Fresh (k : IntKind) (l : List Int) (w : World) (e : Ending) (w' : World) : Prop :=
 ∃ (b cap : Nat), e = .returned (.slice (some ⟨b, 0, none⟩) l.length cap) /\ (∀ j u, (nums k l)[j]? = some u -> w'.cell? ((⟨b, 0, none⟩ : Addr).add j) = some u) /\ Below w.heap.size w w'
theorem fresh_made {w : World} {k : IntKind} {l : List Int} {E : TypeId} (v : Ending) (h : v = .returned (.slice (some ⟨w.heap.size, 0, none⟩) l.length l.length)) : Fresh k l w v (w.alloc (.cells (nums k l).toArray E)) := by
 refine ⟨w.heap.size, l.length, h, fun j u hj => ?_, (Below.refl _ _).alloc (Nat.le_refl _) _⟩
 rw [Addr.add_lit, cell_of_row _ _ _ (nums k l).toArray E (0, 0) (heap_alloc_new w _)]
 simpa using hj
theorem bytes_any (c : Int) (w : World) (h : Ru.Is c) :
 Calls Try.prog 113 #[.int .i64 c] w (Fresh .u8 (Lib.encodeRuneZ c) w) := by
 unfold Ru.Is at h
 by_cases h1 : c < 128
 ·have e := Lib.encodeRuneZ_one h.1 (by omega : c <= 127)
  rw [e]
  have q0 : 0 <= c := h.1
  clear e h
  go_enter Try.func113, Try.ntmps113
  go_wp2_with fail
  go_ret
  exact fresh_made _ rfl
 ·by_cases h2 : c < 2048
  ·have e := Lib.encodeRuneZ_two (by omega : 128 <= c) (by omega)
   rw [e]
   clear e h
   go_enter Try.func113, Try.ntmps113
   go_wp2_with fail
   go_ret
   exact fresh_made _ rfl
  ·by_cases h3 : c < 65536
   ·have e := Lib.encodeRuneZ_three (r := c) (by omega)
    rw [e]
    clear e h
    go_enter Try.func113, Try.ntmps113
    go_wp2_with fail
    go_ret
    exact fresh_made _ rfl
   ·have e := Lib.encodeRuneZ_four (r := c) (by omega) (by omega)
    rw [e]
    have q1 : c <= 1114111 := by omega
    clear e h
    go_enter Try.func113, Try.ntmps113
    go_wp2_with fail
    go_ret
    exact fresh_made _ rfl
theorem enc_bad {c : Int} (h : ¬ Ru.Is c) : Lib.encodeRuneZ 65533 = Lib.encodeRuneZ c := by
 unfold Ru.Is at h
 rw [Lib.encodeRuneZ_bad (r := c) (by omega)]
 decide
theorem rwrite_next {w wr wb w3 : World} {v v' : Value} {l : List Int} {k : Nat} {x : Int} (hk : l.take (k + 1) = l.take k ++ [x])
 (hown : wr.ownsRow w.heap.size 5 1 v (Ru.wr (l.take k)).length (nums .u8 (Ru.wr (l.take k)))) (hbel : Below w.heap.size w wr) (hb : Below wr.heap.size wr wb)
 (hown3 : w3.ownsRow w.heap.size 5 1 v' ((Ru.wr (l.take k)).length + (Lib.encodeRuneZ x).length) (nums .u8 (Ru.wr (l.take k)) ++ nums .u8 (Lib.encodeRuneZ x))) (hgrow : wb.grownBy w3 v.ownBlock) :
 w3.ownsRow w.heap.size 5 1 v' (Ru.wr (l.take (k + 1))).length (nums .u8 (Ru.wr (l.take (k + 1)))) /\ Below w.heap.size w w3 := by
 refine ⟨?_, ?_⟩
 ·rw [hk, Ru.wr_snoc, nums_app, List.length_append]
  exact hown3
 ·have hs := hbel.size
  have hs2 := hb.size
  exact (hbel.trans (hb.mono hs)).grown hgrow (by omega) (fun j hj => (hown.lt j hj).1)
theorem nums_size (k : IntKind) (l : List Int) : (nums k l).length = l.length * 1 := by rw [nums_len]; omega
theorem rwrite_any (l : List Int) (A : Option Addr) (cap : Nat) (w : World) (hm : l.length <= 65536) (hcap : l.length <= cap) (hA : Bs w w.heap.size .i64 A l) :
 Calls Try.prog 110 #[.slice A l.length cap] w (Made .u8 5 (Ru.wr l) w) := by
 obtain ⟨i0, hi, hz0, hz1, hz2⟩ := info_parts Try.info5
 have CB : Hid (∀ (c x : Int) (wq : World), Ru.Is c -> Lib.encodeRuneZ c = Lib.encodeRuneZ x -> Calls Try.prog 113 #[.int .i64 c] wq (Fresh .u8 (Lib.encodeRuneZ x) wq)) :=
  Lib.hid fun c x wq h1 h2 => by rw [<- h2]; exact bytes_any c wq h1
 have HA := Lib.hid hA
 clear hA
 by_cases h0 : 0 < l.length
 ·obtain ⟨b, off, rfl, hb, hp⟩ := HA.out h0
  have HP := Lib.hid hp
  clear hp HA
  go_enter Try.func110, Try.ntmps110
  go_wp2_with fail
  go_loopw [3, 4] (fun v3 v4 wr => WriteAt w l v3 v4 wr) (fun _ v4 _ => l.length - (RowKit.intOf v4).toNat)
  case atStart => exact ⟨0, Nat.zero_le _, rfl, World.ownsRow_nil _ _ _ _, Below.refl _ _⟩
  case round =>
   obtain ⟨k, hk, rfl, hown, hbel⟩ := hrel
   have HO := Lib.hid hown
   have HB := Lib.hid hbel
   clear hown hbel
   by_cases hlt : k < l.length
   ·have hcell := (HB.out.cell (p := ⟨b, off + k, none⟩) hb).trans (HP.out k hlt)
    have HN := Lib.hid (Ru.take_g hlt)
    have hle := Lib.encodeRuneZ_length (Ru.g l k)
    have hc0 : (Ru.wr (l.take k)).length + 4 <= 1000000 := by have := Ru.wr_len (l.take k); have := List.length_take_le k l; omega
    have hc3 : (Ru.wr (l.take k)).length + (Lib.encodeRuneZ (Ru.g l k)).length <= maxLen := by unfold maxLen; omega
    have hc4 : ((Ru.wr (l.take k)).length + (Lib.encodeRuneZ (Ru.g l k)).length) * 1 <= 140737488355328 := by omega
    clear hle hc0
    cases his : Ru.isB (Ru.g l k)
    ·have hbad : ¬ Ru.Is (Ru.g l k) := fun h => by rw [Ru.isB_iff.2 h] at his; cases his
     have C' := Lib.hid (fun wq => CB.out 65533 (Ru.g l k) wq (by unfold Ru.Is; omega) (enc_bad hbad))
     clear hbad CB
     generalize Ru.g l k = x at *
     go_wp2_with (first | (go_at_call 112; ((with_reducible refine (ris_any _ _).mono ?_); rintro e w' ⟨rfl, rfl⟩)) | (go_at_call 113; ((with_reducible refine (C'.out _).mono ?_); rintro e wb ⟨bb, bc, rfl, hcs, hbb⟩)) | (at_builtin; refine wpList_append_own _ rfl _ _ 103 rfl w.heap.size 5 i0 (.int .u8 0) 1 1 Try.underlying103 hi hz0 hz1 hz2 rfl (by decide) _ _ _ rfl (kept_below HO.out hbb (Nat.le_refl _)) ⟨bb, 0, none⟩ _ bc (nums .u8 (Lib.encodeRuneZ x)) rfl (nums_size _ _) hcs (nums_one _ _) hc3 hc4 (Nat.le_trans HB.out.size hbb.size) ?_; intro v' w3 hown3 hgrow _; have HO3 := Lib.hid (rwrite_next HN.out HO.out HB.out hbb hown3 hgrow); clear hown3 hgrow hcs hbb))
     go_roundw
     case rel => exact ⟨k + 1, by omega, by go_num, HO3.out.1, HO3.out.2⟩
     case measure => simp [RowKit.intOf]; omega
    ·have C' := Lib.hid (fun wq => CB.out (Ru.g l k) (Ru.g l k) wq (Ru.isB_iff.1 his) rfl)
     clear CB
     generalize Ru.g l k = x at *
     go_wp2_with (first | (go_at_call 112; ((with_reducible refine (ris_any _ _).mono ?_); rintro e w' ⟨rfl, rfl⟩)) | (go_at_call 113; ((with_reducible refine (C'.out _).mono ?_); rintro e wb ⟨bb, bc, rfl, hcs, hbb⟩)) | (at_builtin; refine wpList_append_own _ rfl _ _ 103 rfl w.heap.size 5 i0 (.int .u8 0) 1 1 Try.underlying103 hi hz0 hz1 hz2 rfl (by decide) _ _ _ rfl (kept_below HO.out hbb (Nat.le_refl _)) ⟨bb, 0, none⟩ _ bc (nums .u8 (Lib.encodeRuneZ x)) rfl (nums_size _ _) hcs (nums_one _ _) hc3 hc4 (Nat.le_trans HB.out.size hbb.size) ?_; intro v' w3 hown3 hgrow _; have HO3 := Lib.hid (rwrite_next HN.out HO.out HB.out hbb hown3 hgrow); clear hown3 hgrow hcs hbb))
     go_roundw
     case rel => exact ⟨k + 1, by omega, by go_num, HO3.out.1, HO3.out.2⟩
     case measure => simp [RowKit.intOf]; omega
   ·obtain rfl : k = l.length := by omega
    have hd : Hid (l.take l.length = l) := Lib.hid (List.take_length)
    clear HP
    go_wp2_with fail
    go_ret
    exact ⟨_, rfl, by have := HO.out; rw [hd.out] at this; exact this, HB.out⟩
 ·have hl : l = [] := List.eq_nil_of_length_eq_zero (by omega)
  subst hl
  go_enter Try.func110, Try.ntmps110
  go_wp2_with fail
  go_loop [3, 4] (fun v3 v4 => v3 = .slice none 0 0 /\ v4 = .int .i64 0) (fun _ _ => 0)
  case atStart => exact ⟨rfl, rfl⟩
  case round =>
   obtain ⟨rfl, rfl⟩ := hrel
   go_wp2_with fail
   go_ret
   exact ⟨_, rfl, World.ownsRow_nil _ _ _ _, Below.refl _ _⟩
def On (w : World) (l : List Int) (b off : Nat) : Prop := ∀ j, j < l.length -> w.cell? ⟨b, off + j, none⟩ = some (.int .i64 (Ru.g l j))
theorem On.below {w w' : World} {l : List Int} {b off : Nat} (h : On w l b off) {B : Nat} (hb : b < B) (hw : Below B w w') : On w' l b off := fun j hj => (hw.cell (p := ⟨b, off + j, none⟩) hb).trans (h j hj)
theorem cast1 (k : Nat) : (k : Int) + 1 = ((k + 1 : Nat) : Int) := by omega
theorem cast2 (k : Nat) : (k : Int) + 2 = ((k + 2 : Nat) : Int) := by omega
theorem cast11 (k : Nat) : (k : Int) + 1 + 1 = ((k + 2 : Nat) : Int) := by omega
theorem tat_any (l : List Int) (x : Int) (k : Nat) (hx : x = (k : Int)) (b off cap : Nat) (w : World) (_hm : l.length <= 65536) (hp : On w l b off) :
 Calls Try.prog 93 #[.slice (some ⟨b, off, none⟩) l.length cap, .int .i64 x] w fun e w' => e = .returned (.int .i64 (Tk.at' l k)) /\ w = w' := by
 subst hx
 by_cases h : k < l.length
 ·have hc := hp k h
  rw [Tk.at_in h]
  generalize Ru.g l k = y at *
  clear hp
  go_enter Try.func93, Try.ntmps93
  go_wp2_with fail
  go_ret
  exact ⟨rfl, rfl⟩
 ·rw [Tk.at_out h]
  clear hp
  go_enter Try.func93, Try.ntmps93
  go_wp2_with fail
  go_ret
  exact ⟨rfl, rfl⟩
theorem twhite_any (c : Int) (w : World) :
 Calls Try.prog 92 #[.int .i64 c] w fun e w' => e = .returned (.bool (Ru.whiB c)) /\ w = w' := by
 by_cases a1 : c = 9
 ·subst a1
  go_enter Try.func92, Try.ntmps92
  go_wp2_with fail
  go_ret
  exact ⟨rfl, rfl⟩
 ·by_cases a2 : c = 10
  ·subst a2
   go_enter Try.func92, Try.ntmps92
   go_wp2_with fail
   go_ret
   exact ⟨rfl, rfl⟩
  ·by_cases a3 : c = 32
   ·subst a3
    go_enter Try.func92, Try.ntmps92
    go_wp2_with fail
    go_ret
    exact ⟨rfl, rfl⟩
   ·have e1 := Ru.eq_f a1
    have e2 := Ru.eq_f a2
    have e3 := Ru.eq_f a3
    go_enter Try.func92, Try.ntmps92
    go_wp2_with fail
    go_ret
    exact ⟨ret_bool (by unfold Ru.whiB; simp [a1, a2, a3]), rfl⟩
def AtIs (l : List Int) (b off cap : Nat) (w : World) : Prop := ∀ (x : Int) (k : Nat), x = (k : Int) -> Calls Try.prog 93 #[.slice (some ⟨b, off, none⟩) l.length cap, .int .i64 x] w fun e w' => e = .returned (.int .i64 (Tk.at' l k)) /\ w = w'
theorem at_is (l : List Int) (b off cap : Nat) (w : World) (hm : l.length <= 65536) (hp : On w l b off) : Hid (AtIs l b off cap w) := Lib.hid fun x k hx => tat_any l x k hx b off cap w hm hp
theorem tesc_any (l : List Int) (x : Int) (k : Nat) (hx : x = (k : Int)) (b off cap : Nat) (w : World) (hm : l.length <= 65536) (hk : k <= 100000) (hp : On w l b off) :
 Calls Try.prog 96 #[.slice (some ⟨b, off, none⟩) l.length cap, .int .i64 x] w fun e w' => e = .returned (.bool (Tk.esc l k)) /\ w = w' := by
 subst hx
 have CT := at_is l b off cap w hm hp
 clear hp
 unfold Tk.esc
 have C0 := Lib.hid (CT.out _ k rfl)
 have C1 := Lib.hid (CT.out _ _ (cast1 k))
 clear CT
 generalize Tk.at' l k = a0 at *
 generalize Tk.at' l (k + 1) = a1 at *
 by_cases e0 : a0 = 92
 ·subst e0
  by_cases e1 : 0 <= a1
  ·by_cases e2 : a1 = 10
   ·subst e2
    go_enter Try.func96, Try.ntmps96
    go_wp2_with (go_at_call 93; first | ((with_reducible refine (C0.out).mono ?_); rintro e w' ⟨rfl, rfl⟩) | ((with_reducible refine (C1.out).mono ?_); rintro e w' ⟨rfl, rfl⟩))
    go_ret
    exact ⟨rfl, rfl⟩
   ·have f2 : (a1 != 10) = true := by rw [bne_iff_ne]; exact e2
    go_enter Try.func96, Try.ntmps96
    go_wp2_with (go_at_call 93; first | ((with_reducible refine (C0.out).mono ?_); rintro e w' ⟨rfl, rfl⟩) | ((with_reducible refine (C1.out).mono ?_); rintro e w' ⟨rfl, rfl⟩))
    go_ret
    exact ⟨ret_bool (by simp [e1, e2]), rfl⟩
  ·go_enter Try.func96, Try.ntmps96
   go_wp2_with (go_at_call 93; first | ((with_reducible refine (C0.out).mono ?_); rintro e w' ⟨rfl, rfl⟩) | ((with_reducible refine (C1.out).mono ?_); rintro e w' ⟨rfl, rfl⟩))
   go_ret
   exact ⟨ret_bool (by simp; omega), rfl⟩
 ·have f0 := Ru.eq_f e0
  go_enter Try.func96, Try.ntmps96
  go_wp2_with (go_at_call 93; first | ((with_reducible refine (C0.out).mono ?_); rintro e w' ⟨rfl, rfl⟩) | ((with_reducible refine (C1.out).mono ?_); rintro e w' ⟨rfl, rfl⟩))
  go_ret
  exact ⟨ret_bool (by simp [e0]), rfl⟩
def EscIs (l : List Int) (b off cap : Nat) (w : World) : Prop := ∀ (x : Int) (k : Nat), x = (k : Int) -> k <= 100000 -> Calls Try.prog 96 #[.slice (some ⟨b, off, none⟩) l.length cap, .int .i64 x] w fun e w' => e = .returned (.bool (Tk.esc l k)) /\ w = w'
theorem esc_is (l : List Int) (b off cap : Nat) (w : World) (hm : l.length <= 65536) (hp : On w l b off) : Hid (EscIs l b off cap w) := Lib.hid fun x k hx hk => tesc_any l x k hx b off cap w hm hk hp
theorem tmay_any (l : List Int) (x : Int) (k : Nat) (hx : x = (k : Int)) (b off cap : Nat) (w : World) (hm : l.length <= 65536) (hk : k <= 100000) (hp : On w l b off) :
 Calls Try.prog 109 #[.slice (some ⟨b, off, none⟩) l.length cap, .int .i64 x] w fun e w' => e = .returned (.bool (Tk.may l k)) /\ w = w' := by
 subst hx
 have C0 := Lib.hid ((at_is l b off cap w hm hp).out _ k rfl)
 have C1 := Lib.hid ((esc_is l b off cap w hm hp).out _ k rfl hk)
 clear hp
 unfold Tk.may
 generalize Tk.at' l k = a0 at *
 generalize Tk.esc l k = a1 at *
 cases hb : Ru.begB a0
 all_goals
  go_enter Try.func109, Try.ntmps109
  go_wp2_with (first | (go_at_call 93; ((with_reducible refine (C0.out).mono ?_); rintro e w' ⟨rfl, rfl⟩)) | (go_at_call 96; ((with_reducible refine (C1.out).mono ?_); rintro e w' ⟨rfl, rfl⟩)) | (go_at_call 106; ((with_reducible refine (rbegins_any _ _).mono ?_); rintro e w' ⟨rfl, rfl⟩)))
  go_ret
  exact ⟨ret_bool (by simp), rfl⟩
def MayIs (l : List Int) (b off cap : Nat) (w : World) : Prop := ∀ (x : Int) (k : Nat), x = (k : Int) -> k <= 100000 -> Calls Try.prog 109 #[.slice (some ⟨b, off, none⟩) l.length cap, .int .i64 x] w fun e w' => e = .returned (.bool (Tk.may l k)) /\ w = w'
theorem may_is (l : List Int) (b off cap : Nat) (w : World) (hm : l.length <= 65536) (hp : On w l b off) : Hid (MayIs l b off cap w) := Lib.hid fun x k hx hk => tmay_any l x k hx b off cap w hm hk hp
theorem tbegs_any (l : List Int) (x : Int) (k : Nat) (hx : x = (k : Int)) (b off cap : Nat) (w : World) (hm : l.length <= 65536) (hk : k <= 90000) (hp : On w l b off) :
 Calls Try.prog 101 #[.slice (some ⟨b, off, none⟩) l.length cap, .int .i64 x] w fun e w' => e = .returned (.bool (Tk.begs l k)) /\ w = w' := by
 subst hx
 have C0 := Lib.hid ((at_is l b off cap w hm hp).out _ k rfl)
 have C1 := Lib.hid ((at_is l b off cap w hm hp).out _ _ (cast1 k))
 have D0 := Lib.hid ((may_is l b off cap w hm hp).out _ k rfl (by omega))
 have D1 := Lib.hid ((may_is l b off cap w hm hp).out _ _ (cast1 k) (by omega))
 clear hp
 unfold Tk.begs
 generalize Tk.at' l k = a0 at *
 generalize Tk.at' l (k + 1) = a1 at *
 generalize Tk.may l k = m0 at *
 generalize Tk.may l (k + 1) = m1 at *
 cases m0
 ·by_cases e0 : a0 = 45
  ·subst e0
   cases m1
   ·by_cases e1 : a1 = 45
    ·subst e1
     go_enter Try.func101, Try.ntmps101
     go_wp2_with (first | (go_at_call 93; first | ((with_reducible refine (C0.out).mono ?_); rintro e w' ⟨rfl, rfl⟩) | ((with_reducible refine (C1.out).mono ?_); rintro e w' ⟨rfl, rfl⟩)) | (go_at_call 109; first | ((with_reducible refine (D0.out).mono ?_); rintro e w' ⟨rfl, rfl⟩) | ((with_reducible refine (D1.out).mono ?_); rintro e w' ⟨rfl, rfl⟩)))
     go_ret
     exact ⟨rfl, rfl⟩
    ·have f1 := Ru.eq_f e1
     go_enter Try.func101, Try.ntmps101
     go_wp2_with (first | (go_at_call 93; first | ((with_reducible refine (C0.out).mono ?_); rintro e w' ⟨rfl, rfl⟩) | ((with_reducible refine (C1.out).mono ?_); rintro e w' ⟨rfl, rfl⟩)) | (go_at_call 109; first | ((with_reducible refine (D0.out).mono ?_); rintro e w' ⟨rfl, rfl⟩) | ((with_reducible refine (D1.out).mono ?_); rintro e w' ⟨rfl, rfl⟩)))
     go_ret
     exact ⟨ret_bool (by simp [e1]), rfl⟩
   ·go_enter Try.func101, Try.ntmps101
    go_wp2_with (first | (go_at_call 93; first | ((with_reducible refine (C0.out).mono ?_); rintro e w' ⟨rfl, rfl⟩) | ((with_reducible refine (C1.out).mono ?_); rintro e w' ⟨rfl, rfl⟩)) | (go_at_call 109; first | ((with_reducible refine (D0.out).mono ?_); rintro e w' ⟨rfl, rfl⟩) | ((with_reducible refine (D1.out).mono ?_); rintro e w' ⟨rfl, rfl⟩)))
    go_ret
    exact ⟨rfl, rfl⟩
  ·have f0 := Ru.eq_f e0
   go_enter Try.func101, Try.ntmps101
   go_wp2_with (first | (go_at_call 93; first | ((with_reducible refine (C0.out).mono ?_); rintro e w' ⟨rfl, rfl⟩) | ((with_reducible refine (C1.out).mono ?_); rintro e w' ⟨rfl, rfl⟩)) | (go_at_call 109; first | ((with_reducible refine (D0.out).mono ?_); rintro e w' ⟨rfl, rfl⟩) | ((with_reducible refine (D1.out).mono ?_); rintro e w' ⟨rfl, rfl⟩)))
   go_ret
   exact ⟨ret_bool (by simp [e0]), rfl⟩
 ·go_enter Try.func101, Try.ntmps101
  go_wp2_with (first | (go_at_call 93; first | ((with_reducible refine (C0.out).mono ?_); rintro e w' ⟨rfl, rfl⟩) | ((with_reducible refine (C1.out).mono ?_); rintro e w' ⟨rfl, rfl⟩)) | (go_at_call 109; first | ((with_reducible refine (D0.out).mono ?_); rintro e w' ⟨rfl, rfl⟩) | ((with_reducible refine (D1.out).mono ?_); rintro e w' ⟨rfl, rfl⟩)))
  go_ret
  exact ⟨rfl, rfl⟩
def BegsIs (l : List Int) (b off cap : Nat) (w : World) : Prop := ∀ (x : Int) (k : Nat), x = (k : Int) -> k <= 90000 -> Calls Try.prog 101 #[.slice (some ⟨b, off, none⟩) l.length cap, .int .i64 x] w fun e w' => e = .returned (.bool (Tk.begs l k)) /\ w = w'
theorem begs_is (l : List Int) (b off cap : Nat) (w : World) (hm : l.length <= 65536) (hp : On w l b off) : Hid (BegsIs l b off cap w) := Lib.hid fun x k hx hk => tbegs_any l x k hx b off cap w hm hk hp
namespace Tk
open Ru
theorem pow16 {m : Nat} (h : m <= 5) : (16 : Int) ^ m <= 1048576 := by
 rcases (show m = 0 ∨ m = 1 ∨ m = 2 ∨ m = 3 ∨ m = 4 ∨ m = 5 by omega) with rfl | rfl | rfl | rfl | rfl | rfl <;> decide
theorem hexR_yes {f : Nat} {l : List Int} {j : Nat} {n : Int} (h : 0 <= hexV (at' l j)) : hexR (f + 1) l j n = hexR f l (j + 1) (n * 16 + hexV (at' l j)) := by
 conv => lhs; unfold hexR
 rw [if_pos h]
theorem hexR_no {f : Nat} {l : List Int} {j : Nat} {n : Int} (h : ¬ 0 <= hexV (at' l j)) : hexR f l j n = (n, j) := by
 cases f with
 | zero => rfl
 | succ f => conv => lhs; unfold hexR
             rw [if_neg h]
theorem hexR_end {l : List Int} {j : Nat} {n : Int} : hexR 0 l j n = (n, j) := rfl
def meantN (n : Int) : Int := if n = 0 ∨ isB n = false then 65533 else n
def meantK (l : List Int) (j : Nat) : Nat := if whiB (at' l j) = true then j + 1 else j
theorem meant_none {l : List Int} {k : Nat} {n : Int} (h : hexR 6 l (k + 1) 0 = (n, k + 1)) : meant l k = (g l (k + 1), k + 2) := by
 unfold meant; rw [h]; simp
theorem meant_some {l : List Int} {k j : Nat} {n : Int} (h : hexR 6 l (k + 1) 0 = (n, j)) (hj : j ≠ k + 1) : meant l k = (meantN n, meantK l j) := by
 unfold meant meantN meantK; rw [h]; simp [hj]
end Tk
end Go.Proofs.Ytaofkaehhikfaaa
