/-
  Plain mathematics of decimals: what the digits of a decimal are, its exponent, its number. No program.
-/
import Derived.Test.YtgcmjkimiakibaaGreatDoorGac
import Derived.Lib.Atoi
import Derived.Lib.Strings
namespace Go.Proofs.YtgcmjkimiakibaaGreatDoor
namespace Fx
/-- a digit's value -/
def dv (c : UInt8) : Nat := c.toNat - 48
def valFrom (acc : Nat) (l : List UInt8) : Nat := l.foldl (fun a c => a * 10 + dv c) acc
theorem dv_le {c : UInt8} (h : isD c = true) : dv c ≤ 9 := by
  unfold isD at h; have := of_decide_eq_true h; unfold dv; omega
theorem digitVal_of {c : UInt8} (h : isD c = true) : Lib.digitVal c = some (dv c) := by
  unfold isD at h; have := of_decide_eq_true h; unfold Lib.digitVal dv; rw [if_pos (by omega)]
theorem decFrom_val (l : List UInt8) : ∀ acc, (∀ c ∈ l, isD c = true) → Lib.decFrom acc l = some (valFrom acc l) := by
  induction l with
  | nil => intro acc _; rfl
  | cons a t ih =>
    intro acc h
    rw [Lib.decFrom, digitVal_of (h a (by simp))]
    exact ih _ (fun c hc => h c (by simp [hc]))
theorem atoi_val {l : List UInt8} (hn : l ≠ []) (h : ∀ c ∈ l, isD c = true) : Lib.atoi l = some ((valFrom 0 l : Nat) : Int) := by
  match l, hn with
  | a :: t, _ =>
    have ha : isD a = true := h a (by simp)
    have h45 : (a == 45) = false := by rw [beq_eq_false_iff_ne]; rintro rfl; exact absurd ha (by decide)
    have h43 : (a == 43) = false := by rw [beq_eq_false_iff_ne]; rintro rfl; exact absurd ha (by decide)
    unfold Lib.atoi
    simp only [h45, h43, Bool.false_eq_true, if_false]
    unfold Lib.decNat
    rw [decFrom_val _ _ h]
    rfl
theorem valFrom_lt (l : List UInt8) : ∀ acc, (∀ c ∈ l, isD c = true) → valFrom acc l < (acc + 1) * 10 ^ l.length := by
  induction l with
  | nil => intro acc _; unfold valFrom; simp
  | cons a t ih =>
    intro acc h
    have h1 := ih (acc * 10 + dv a) (fun c hc => h c (by simp [hc]))
    have h2 := dv_le (h a (by simp))
    have h3 : (acc * 10 + dv a + 1) * 10 ^ t.length ≤ ((acc + 1) * 10) * 10 ^ t.length := Nat.mul_le_mul_right _ (by omega)
    have h4 : ((acc + 1) * 10) * 10 ^ t.length = (acc + 1) * 10 ^ (t.length + 1) := by rw [Nat.pow_succ, Nat.mul_assoc, Nat.mul_comm 10]
    have h5 : valFrom acc (a :: t) = valFrom (acc * 10 + dv a) t := rfl
    rw [h5, List.length_cons, ← h4]
    omega

/-- the bytes from a to b -/
def seg (l : List UInt8) (a b : Nat) : List UInt8 := (l.drop a).take (b - a)
theorem seg_join (l : List UInt8) {a b c : Nat} (h1 : a ≤ b) (h2 : b ≤ c) : seg l a c = seg l a b ++ seg l b c := by
  unfold seg
  rw [show c - a = (b - a) + (c - b) by omega, List.take_add, List.drop_drop, show a + (b - a) = b by omega]
theorem seg_all (l : List UInt8) : seg l 0 l.length = l := by unfold seg; simp
theorem seg_nil (l : List UInt8) (a : Nat) : seg l a a = [] := by unfold seg; simp
theorem seg_one {l : List UInt8} {a : Nat} (h : a < l.length) : seg l a (a + 1) = [at' l a] := by
  unfold seg at'
  rw [show a + 1 - a = 1 by omega, List.drop_eq_getElem_cons h, List.getD_eq_getElem?_getD, List.getElem?_eq_getElem h]; rfl
theorem seg_dig (l : List UInt8) (a : Nat) : seg l a (dig l a) = (l.drop a).takeWhile isD := by
  unfold seg dig
  rw [show a + ((l.drop a).takeWhile isD).length - a = ((l.drop a).takeWhile isD).length by omega]
  exact (List.prefix_iff_eq_take.1 (List.takeWhile_prefix isD)).symm
theorem seg_isD (l : List UInt8) (a : Nat) : ∀ c ∈ seg l a (dig l a), isD c = true := by
  rw [seg_dig]; intro c hc; exact List.all_eq_true.1 List.all_takeWhile c hc
theorem seg_len {l : List UInt8} {a b : Nat} (h : b ≤ l.length) : (seg l a b).length = b - a := by
  unfold seg; rw [List.length_take, List.length_drop]; omega
theorem seg_get (l : List UInt8) {a b i : Nat} (h : a + i < b) : (seg l a b)[i]? = l[a + i]? := by
  unfold seg; rw [List.getElem?_take_of_lt (by omega), List.getElem?_drop]

/-- what the reference's look through a decimal gathers -/
structure Sc where
  d : List Nat
  pt : Nat
  bh : Bool
  ex : Nat
  ed : Nat
  en : Bool
  ie : Bool
def step (t : Sc) (c : UInt8) : Sc :=
  if c = 101 ∨ c = 69 then { t with ie := true }
  else if t.ie = true ∧ c = 45 then { t with en := true }
  else if c = 46 then { t with bh := true }
  else if isD c = true ∧ t.ie = true then { t with ed := t.ed + 1, ex := if t.ex < 999999 then t.ex * 10 + dv c else t.ex }
  else if isD c = true then { t with d := t.d ++ [dv c], pt := if t.bh then t.pt else t.pt + 1 }
  else t
def sc0 : Sc := ⟨[], 0, false, 0, 0, false, false⟩
def scan (l : List UInt8) : Sc := l.foldl step sc0

theorem step_digit {t : Sc} {c : UInt8} (h : isD c = true) (hi : t.ie = false) : step t c = { t with d := t.d ++ [dv c], pt := if t.bh then t.pt else t.pt + 1 } := by
  have h1 : ¬ (c = 101 ∨ c = 69) := by rintro (rfl | rfl) <;> exact absurd h (by decide)
  have h3 : ¬ c = 46 := by rintro rfl; exact absurd h (by decide)
  unfold step
  rw [if_neg h1, if_neg (by simp [hi]), if_neg h3, if_neg (by simp [hi]), if_pos h]
theorem step_exp {t : Sc} {c : UInt8} (h : isD c = true) (hi : t.ie = true) : step t c = { t with ed := t.ed + 1, ex := if t.ex < 999999 then t.ex * 10 + dv c else t.ex } := by
  have h1 : ¬ (c = 101 ∨ c = 69) := by rintro (rfl | rfl) <;> exact absurd h (by decide)
  have h2 : ¬ c = 45 := by rintro rfl; exact absurd h (by decide)
  have h3 : ¬ c = 46 := by rintro rfl; exact absurd h (by decide)
  unfold step
  rw [if_neg h1, if_neg (by simp [h2]), if_neg h3, if_pos ⟨h, hi⟩]
theorem fold_digits (l : List UInt8) : ∀ t : Sc, (∀ c ∈ l, isD c = true) → t.ie = false → l.foldl step t = { t with d := t.d ++ l.map dv, pt := if t.bh then t.pt else t.pt + l.length } := by
  induction l with
  | nil => intro t _ _; simp
  | cons a r ih =>
    intro t h hi
    rw [List.foldl_cons, step_digit (h a (by simp)) hi]
    refine (ih _ (fun c hc => h c (by simp [hc])) ?_).trans ?_
    · exact hi
    · cases hb : t.bh <;> simp
      omega
def expFold (e : Nat) (l : List UInt8) : Nat := l.foldl (fun e c => if e < 999999 then e * 10 + dv c else e) e
theorem fold_exp (l : List UInt8) : ∀ t : Sc, (∀ c ∈ l, isD c = true) → t.ie = true → l.foldl step t = { t with ed := t.ed + l.length, ex := expFold t.ex l } := by
  induction l with
  | nil => intro t _ _; simp [expFold]
  | cons a r ih =>
    intro t h hi
    rw [List.foldl_cons, step_exp (h a (by simp)) hi]
    refine (ih _ (fun c hc => h c (by simp [hc])) ?_).trans ?_
    · exact hi
    · simp [expFold]; omega
theorem expFold_val (l : List UInt8) : ∀ e, (∀ c ∈ l, isD c = true) → (e + 1) * 10 ^ l.length ≤ 1000000 → expFold e l = valFrom e l := by
  induction l with
  | nil => intro e _ _; rfl
  | cons a r ih =>
    intro e h hb
    have h2 := dv_le (h a (by simp))
    have hp : 1 ≤ 10 ^ r.length := Nat.one_le_pow _ _ (by decide)
    have hb' : (e + 1) * 10 * 10 ^ r.length ≤ 1000000 := by rw [Nat.mul_assoc, Nat.mul_comm 10, ← Nat.pow_succ]; exact hb
    have he : (e + 1) * 10 ≤ 1000000 := Nat.le_trans (Nat.le_mul_of_pos_right _ hp) hb'
    have e1 : expFold e (a :: r) = expFold (e * 10 + dv a) r := by
      show expFold (if e < 999999 then e * 10 + dv a else e) r = _
      rw [if_pos (by omega)]
    rw [e1, ih _ (fun c hc => h c (by simp [hc])) (Nat.le_trans (Nat.mul_le_mul_right _ (by omega)) hb')]
    rfl

/-- the digits of a decimal, and noughts behind them -/
def dgt (l : List UInt8) (place : Nat) : Nat :=
  if spS l + place < spW l then dv (at' l (spS l + place))
  else if spS l + place + 1 < spD l then dv (at' l (spS l + place + 1)) else 0
/-- the digits, as a list -/
def digs (l : List UInt8) : List Nat := (seg l (spS l) (spW l)).map dv ++ (seg l (spW l + 1) (spD l)).map dv
def place0 (l : List UInt8) : Nat := spW l - spS l
def fromE (l : List UInt8) : Nat := sgn l (spD l + 1)
def expMag (l : List UInt8) : Nat := if spE l - fromE l ≤ 6 then valFrom 0 (seg l (fromE l) (spE l)) else 999999
/-- the exponent -/
def expo (l : List UInt8) : Int := if spE l = spD l then 0 else if at' l (spD l + 1) = 45 then -(expMag l : Int) else expMag l

theorem at_eq {l : List UInt8} {i : Nat} (h : i < l.length) : l[i]? = some (at' l i) := by
  unfold at'; rw [List.getD_eq_getElem?_getD, List.getElem?_eq_getElem h]; rfl
theorem digs_get (l : List UInt8) (i : Nat) : (digs l).getD i 0 = dgt l i := by
  have b1 := spS_hi l
  have b2 := spW_hi l
  have b3 := spW_lo l
  have b4 := spD_hi l
  have b5 := spD_lo l
  unfold digs dgt
  rw [List.getD_eq_getElem?_getD, List.getElem?_append, List.length_map, seg_len b2]
  by_cases h : spS l + i < spW l
  · rw [if_pos (by omega), if_pos h, List.getElem?_map, seg_get l h, at_eq (by omega)]; rfl
  · rw [if_neg (by omega), if_neg h, List.getElem?_map]
    by_cases h2 : spS l + i + 1 < spD l
    · rw [if_pos h2, seg_get l (by omega), show spW l + 1 + (i - (spW l - spS l)) = spS l + i + 1 by omega, at_eq (by omega)]; rfl
    · rw [if_neg h2, List.getElem?_eq_none (by rw [seg_len b4]; omega)]; rfl
theorem digs_len (l : List UInt8) : (digs l).length = (spW l - spS l) + (spD l - (spW l + 1)) := by
  unfold digs
  rw [List.length_append, List.length_map, List.length_map, seg_len (spW_hi l), seg_len (spD_hi l)]

/-- how the parts of a decimal stand behind one another -/
theorem sign_fold (l : List UInt8) : (seg l 0 (spS l)).foldl step sc0 = sc0 := by
  have h := spS_hi l
  have hd : spS l = if (at' l 0 = 43 ∨ at' l 0 = 45) then 0 + 1 else 0 := rfl
  by_cases hc : at' l 0 = 43 ∨ at' l 0 = 45
  · rw [if_pos hc] at hd
    rw [hd, seg_one (by omega)]
    rcases hc with hc | hc <;> rw [hc] <;> rfl
  · rw [if_neg hc] at hd
    rw [hd, seg_nil]; rfl
theorem spD_case (l : List UInt8) : spD l = spW l ∨ (at' l (spW l) = 46 ∧ spW l + 1 < spD l ∧ spD l = dig l (spW l + 1)) := by
  unfold spD spDof
  split
  · rename_i h; exact Or.inr ⟨h.1, h.2, rfl⟩
  · exact Or.inl rfl
theorem spE_case (l : List UInt8) : spE l = spD l ∨ ((at' l (spD l) = 101 ∨ at' l (spD l) = 69) ∧ fromE l < spE l ∧ spE l = dig l (fromE l)) := by
  unfold spE spEof fromE
  split
  · rename_i h; exact Or.inr ⟨h.1, h.2, rfl⟩
  · exact Or.inl rfl
/-- what is gathered up to the end of all digits -/
def sc1 (l : List UInt8) : Sc := ⟨digs l, place0 l, decide (spW l < spD l), 0, 0, false, false⟩
theorem scan_digits (l : List UInt8) : (seg l 0 (spD l)).foldl step sc0 = sc1 l := by
  have b1 := spS_hi l
  have b2 := spW_hi l
  have b3 := spW_lo l
  have b4 := spD_hi l
  have b5 := spD_lo l
  rw [seg_join l (Nat.zero_le (spS l)) (by omega), seg_join l b3 b5, List.foldl_append, List.foldl_append, sign_fold]
  rw [fold_digits _ sc0 (by have := seg_isD l (spS l); exact this) rfl]
  rcases spD_case l with h | ⟨h1, h2, h3⟩
  · rw [h, seg_nil]
    unfold sc1 digs place0 sc0
    rw [h, show seg l (spW l + 1) (spW l) = [] by unfold seg; simp, seg_len b2]
    simp
  · rw [seg_join l (show spW l ≤ spW l + 1 by omega) (by omega), seg_one (by omega), h1, List.foldl_append]
    have hD : ∀ c ∈ seg l (spW l + 1) (spD l), isD c = true := by rw [h3]; exact seg_isD l _
    have e46 : ∀ t : Sc, [(46 : UInt8)].foldl step t = { t with bh := true } := by
      intro t
      show step t 46 = _
      unfold step
      rw [if_neg (by decide), if_neg (by rintro ⟨_, h⟩; exact absurd h (by decide)), if_pos rfl]
    rw [e46, fold_digits _ _ hD rfl]
    unfold sc1 digs place0 sc0
    rw [seg_len b2]
    simp
    omega
/-- what is gathered of a whole decimal -/
def exRef (l : List UInt8) : Nat := if spE l = spD l then 0 else expFold 0 (seg l (fromE l) (spE l))
def edRef (l : List UInt8) : Nat := if spE l = spD l then 0 else spE l - fromE l
def sc2 (l : List UInt8) : Sc := ⟨digs l, place0 l, decide (spW l < spD l), exRef l, edRef l, decide (spE l ≠ spD l ∧ at' l (spD l + 1) = 45), decide (spE l ≠ spD l)⟩
theorem scan_all (l : List UInt8) : (seg l 0 (spE l)).foldl step sc0 = sc2 l := by
  have b4 := spD_hi l
  have b6 := spE_hi l
  have b7 := spE_lo l
  rcases spE_case l with h | ⟨h1, h2, h3⟩
  · rw [h, scan_digits]
    unfold sc1 sc2 exRef edRef
    simp [h]
  · have g1 : spD l + 1 ≤ fromE l := sgn_lo l _
    have hlt : spD l < l.length := by omega
    have hne : ¬ spE l = spD l := by omega
    rw [seg_join l (Nat.zero_le (spD l)) b7, seg_join l (show spD l ≤ spD l + 1 by omega) (by omega), seg_join l g1 (by omega), seg_one hlt]
    rw [List.foldl_append, List.foldl_append, List.foldl_append, scan_digits]
    have eE : [at' l (spD l)].foldl step (sc1 l) = { sc1 l with ie := true } := by
      show step _ _ = _
      unfold step
      rw [if_pos h1]
    rw [eE]
    have hD : ∀ c ∈ seg l (fromE l) (spE l), isD c = true := by rw [h3]; exact seg_isD l _
    have hf : fromE l = if (at' l (spD l + 1) = 43 ∨ at' l (spD l + 1) = 45) then spD l + 1 + 1 else spD l + 1 := rfl
    have eS : (seg l (spD l + 1) (fromE l)).foldl step { sc1 l with ie := true } = { sc1 l with ie := true, en := decide (at' l (spD l + 1) = 45) } := by
      by_cases hc : at' l (spD l + 1) = 43 ∨ at' l (spD l + 1) = 45
      · rw [if_pos hc] at hf
        rw [hf, seg_one (by omega)]
        show step _ _ = _
        rcases hc with hc | hc
        · rw [hc]
          unfold step
          rw [if_neg (by decide), if_neg (by rintro ⟨_, h⟩; exact absurd h (by decide)), if_neg (by decide), if_neg (by rintro ⟨h, _⟩; exact absurd h (by decide)), if_neg (by decide)]
          rfl
        · rw [hc]
          unfold step
          rw [if_neg (by decide), if_pos ⟨rfl, rfl⟩]
          rfl
      · rw [if_neg hc] at hf
        rw [hf, seg_nil]
        have : decide (at' l (spD l + 1) = 45) = false := decide_eq_false (fun h => hc (Or.inr h))
        rw [this]; rfl
    rw [eS, fold_exp _ _ hD rfl]
    unfold sc1 sc2 exRef edRef
    rw [if_neg hne, if_neg hne, seg_len b6]
    simp [hne]
/-- the exponent, as the reference tells it -/
theorem exp_ref (l : List UInt8) : (if (999999 < exRef l ∨ 6 < edRef l) then (999999 : Int) else exRef l) = if spE l = spD l then 0 else (expMag l : Int) := by
  rcases spE_case l with h | ⟨h1, h2, h3⟩
  · unfold exRef edRef; rw [if_pos h, if_pos h, if_pos h]; rfl
  · have hne : ¬ spE l = spD l := by have : spD l + 1 ≤ fromE l := sgn_lo l _; omega
    have hD : ∀ c ∈ seg l (fromE l) (spE l), isD c = true := by rw [h3]; exact seg_isD l _
    unfold exRef edRef expMag
    rw [if_neg hne, if_neg hne, if_neg hne]
    by_cases h6 : spE l - fromE l ≤ 6
    · have hl := seg_len (a := fromE l) (spE_hi l)
      have hp : 10 ^ (spE l - fromE l) ≤ 10 ^ 6 := Nat.pow_le_pow_right (by decide) h6
      have hv := valFrom_lt _ 0 hD
      rw [hl] at hv
      rw [expFold_val _ 0 hD (by rw [hl]; omega), if_pos h6, if_neg (by omega)]
    · rw [if_pos (Or.inr (by omega)), if_neg h6]; rfl

theorem expMag_bd (l : List UInt8) : expMag l ≤ 999999 := by
  unfold expMag
  split
  · rename_i h6
    rcases spE_case l with h | ⟨h1, h2, h3⟩
    · have : spD l + 1 ≤ fromE l := sgn_lo l _
      have e : seg l (fromE l) (spE l) = [] := by unfold seg; rw [show spE l - fromE l = 0 by omega]; rfl
      rw [e]; decide
    · have hD : ∀ c ∈ seg l (fromE l) (spE l), isD c = true := by rw [h3]; exact seg_isD l _
      have hv := valFrom_lt _ 0 hD
      rw [seg_len (spE_hi l)] at hv
      have hp : 10 ^ (spE l - fromE l) ≤ 10 ^ 6 := Nat.pow_le_pow_right (by decide) h6
      omega
  · omega
theorem expo_bd (l : List UInt8) : -999999 ≤ expo l ∧ expo l ≤ 999999 := by
  have := expMag_bd l
  unfold expo; split
  · omega
  · split <;> omega

/-- the number that the first places make -/
def V (f : Nat → Nat) : Nat → Nat
  | 0 => 0
  | n + 1 => V f n * 10 + f n
theorem V_mono (f : Nat → Nat) (a : Nat) : ∀ n, V f a ≤ V f (a + n) := by
  intro n
  induction n with
  | zero => exact Nat.le_refl _
  | succ n ih => show _ ≤ V f (a + n) * 10 + _; omega
theorem V_zero (f : Nat → Nat) (a : Nat) (h0 : V f a = 0) (hf : ∀ i, a ≤ i → f i = 0) : ∀ n, V f (a + n) = 0 := by
  intro n
  induction n with
  | zero => exact h0
  | succ n ih => show V f (a + n) * 10 + f (a + n) = 0; rw [ih, hf _ (by omega)]
/-- a decimal's number, without its sign -/
def mag (l : List UInt8) : Int := min (V (dgt l) ((place0 l : Int) + expo l + 3).toNat : Nat) 1099511627776
def num (l : List UInt8) : Int := if at' l 0 = 45 then - mag l else mag l
/-- is it a decimal? -/
def isDec (l : List UInt8) : Bool := decide (len l ≠ 0 ∧ len l = l.length)
theorem isDec_of {l : List UInt8} (h : isDec l = true) : spD l ≠ spS l ∧ spE l = l.length := by
  have h1 := of_decide_eq_true h
  unfold len at h1
  by_cases hn : spD l = spS l
  · rw [if_pos hn] at h1; exact absurd rfl h1.1
  · rw [if_neg hn] at h1; exact ⟨hn, h1.2⟩
theorem scan_dec {l : List UInt8} (h : isDec l = true) : scan l = sc2 l := by
  have h1 := scan_all l
  rw [(isDec_of h).2, seg_all] at h1
  exact h1
theorem digs_pos {l : List UInt8} (h : isDec l = true) : 0 < (digs l).length := by
  have h1 := (isDec_of h).1
  have b5 := spD_lo l
  have b3 := spW_lo l
  rw [digs_len]
  rcases spD_case l with h2 | ⟨_, h2, _⟩ <;> omega
theorem expo_two (l : List UInt8) : expo l = if decide (spE l ≠ spD l ∧ at' l (spD l + 1) = 45) = true then - (if spE l = spD l then 0 else (expMag l : Int)) else (if spE l = spD l then 0 else (expMag l : Int)) := by
  unfold expo
  by_cases h1 : spE l = spD l
  · rw [if_pos h1]; simp [h1]
  · rw [if_neg h1]
    by_cases h2 : at' l (spD l + 1) = 45
    · rw [if_pos h2, if_pos (decide_eq_true ⟨h1, h2⟩), if_neg h1]
    · rw [if_neg h2, if_neg (by simp [h2]), if_neg h1]
theorem dig_in {l : List UInt8} {a j : Nat} (h1 : a ≤ j) (h2 : j < dig l a) : isD (at' l j) = true := by
  have hl : j < l.length := by
    by_cases ha : a ≤ l.length
    · have := dig_hi l a ha; omega
    · have hz : dig l a = a := dig_no l a (by rw [at_zero (by omega)]; rfl)
      omega
  refine seg_isD l a _ ?_
  have h3 : (seg l a (dig l a))[j - a]? = some (at' l j) := by
    rw [seg_get l (by omega), show a + (j - a) = j by omega, at_eq hl]
  exact List.mem_of_getElem? h3
theorem dgt_le (l : List UInt8) (i : Nat) : dgt l i ≤ 9 := by
  unfold dgt
  split
  · rename_i hi
    exact dv_le (dig_in (a := spS l) (by omega) hi)
  · split
    · rename_i h1 h2
      rcases spD_case l with h | ⟨_, _, h⟩
      · omega
      · rw [h] at h2
        exact dv_le (dig_in (a := spW l + 1) (by omega) h2)
    · omega
end Fx
end Go.Proofs.YtgcmjkimiakibaaGreatDoor

/-
  Plain words of tokens: the next token. No run of the program in this text.
-/
namespace Go.Proofs.YtgcmjkimiakibaaGreatDoor
open Go.RowKit

namespace Tk
open Ru
/-- the decimal there -/
def numL (l : List Int) (k : Nat) : List UInt8 := (strOfNums (ascL l k)).data.toList
def nlen (l : List Int) (k : Nat) : Nat := Fx.len (numL l k)
def pv (t : List UInt8) : Int := if Fx.isDec t = true then Fx.num t else 0
def nval (l : List Int) (k : Nat) : Int := pv ((numL l k).take (nlen l k))
def numB (c : Int) : Bool := decide (c = 43 ∨ c = 45 ∨ c = 46 ∨ (48 ≤ c ∧ c ≤ 57))
def symK (c : Int) : Int := if c = 40 ∨ c = 91 ∨ c = 123 then 12 else if c = 41 ∨ c = 93 ∨ c = 125 then 13 else 11
def rest (l : List Int) (k : Nat) : Int × ByteArray × Int × Nat :=
  if g l k = 64 ∧ begs l (k + 1) = true then (4, str (name l (k + 1)).1, 0, (name l (k + 1)).2)
  else if begs l k = true then (if at' l (name l k).2 = 40 then (3, str (name l k).1, 0, (name l k).2 + 1) else (2, str (name l k).1, 0, (name l k).2))
  else if g l k = 58 then (14, ⟨#[]⟩, 0, k + 1)
  else if g l k = 59 then (15, ⟨#[]⟩, 0, k + 1)
  else if g l k = 44 then (16, ⟨#[]⟩, 0, k + 1)
  else (symK (g l k), str [g l k], 0, k + 1)
/-- the token there: its kind, its text, its number, and where it ends -/
def nxt (l : List Int) (k : Nat) : Int × ByteArray × Int × Nat :=
  if g l k = 34 ∨ g l k = 39 then ((qq l (g l k) (k + 1)).1, str (qq l (g l k) (k + 1)).2.1, 0, (qq l (g l k) (k + 1)).2.2)
  else if g l k = 35 ∧ (witB (at' l (k + 1)) = true ∨ esc l (k + 1) = true) then (5, str (name l (k + 1)).1, 0, (name l (k + 1)).2)
  else if numB (g l k) = true ∧ 0 < nlen l k then
    (if begs l (k + nlen l k) = true then (10, str (name l (k + nlen l k)).1, nval l k, (name l (k + nlen l k)).2)
     else if at' l (k + nlen l k) = 37 then (9, ⟨#[]⟩, nval l k, k + nlen l k + 1) else (8, ⟨#[]⟩, nval l k, k + nlen l k))
  else rest l k
theorem numL_len (l : List Int) (k : Nat) : (numL l k).length ≤ l.length - k := by
  have h := ascL_len l k
  have h2 : (numL l k).length = (ascL l k).length := by
    unfold numL
    rw [← Lib.size_eq, strOfNums_size]
  omega
theorem nlen_le (l : List Int) (k : Nat) (h : k ≤ l.length) : k + nlen l k ≤ l.length := by
  have h1 := Fx.len_hi (numL l k)
  have h2 := numL_len l k
  unfold nlen
  omega
theorem name_le (l : List Int) : ∀ (m k : Nat), l.length - k ≤ m → k ≤ l.length → k ≤ (name l k).2 ∧ (name l k).2 ≤ l.length
  | m, k, hm, hk => by
    cases hI : inN l k
    · rw [name_no hI]; exact ⟨Nat.le_refl _, hk⟩
    · rw [name_yes hI]
      have ho := oneN_le hI
      have hlt := inN_lt hI
      match m, hm with
      | 0, hm => omega
      | m + 1, hm =>
        have ih := name_le l m (oneN l k).2 (by omega) ho.2
        simp only
        omega
theorem begs_num {l : List Int} {k : Nat} (hk : k < l.length) (h : numB (g l k) = true) (h2 : begs l k = true) : g l k = 45 := by
  unfold begs may esc at h2
  rw [at_in hk] at h2
  unfold numB at h
  unfold begB at h2
  have h3 := of_decide_eq_true h
  simp only [Bool.or_eq_true, Bool.and_eq_true, decide_eq_true_eq] at h2
  omega
theorem begs_not {l : List Int} {k : Nat} (hk : k < l.length) (h : g l k = 35 ∨ g l k = 58 ∨ g l k = 59 ∨ g l k = 44 ∨ g l k = 40 ∨ g l k = 91 ∨ g l k = 123 ∨ g l k = 41 ∨ g l k = 93 ∨ g l k = 125) : begs l k = false := by
  rw [Bool.eq_false_iff]
  intro h2
  unfold begs may esc at h2
  rw [at_in hk] at h2
  unfold begB at h2
  simp only [Bool.or_eq_true, Bool.and_eq_true, decide_eq_true_eq] at h2
  omega
theorem numB_no {c : Int} (h : numB c = false) : c ≠ 43 ∧ c ≠ 45 ∧ c ≠ 46 ∧ (c < 48 ∨ 57 < c) := by
  have := of_decide_eq_false h
  omega
/-- the walk comes to what stands past the numbers -/
def Past (l : List Int) (k : Nat) : Prop := g l k ≠ 34 ∧ g l k ≠ 39 ∧ (g l k = 35 → witB (at' l (k + 1)) = false ∧ esc l (k + 1) = false) ∧ (numB (g l k) = true → nlen l k = 0)
theorem nxt_past {l : List Int} {k : Nat} (h : Past l k) : nxt l k = rest l k := by
  obtain ⟨h1, h2, h3, h4⟩ := h
  unfold nxt
  rw [if_neg (by omega), if_neg (fun h => by have := h3 h.1; rw [this.1, this.2] at h; simp at h), if_neg (fun h => by have := h4 h.1; omega)]
end Tk
end Go.Proofs.YtgcmjkimiakibaaGreatDoor

/-
  Plain words of tokens: how far a token goes; all of them. No run of the program in this text.
-/
namespace Go.Proofs.YtgcmjkimiakibaaGreatDoor
namespace Tk
open Ru

theorem begs_in {l : List Int} {k : Nat} (h : begs l k = true) : inN l k = true := by
  unfold begs may at h
  unfold inN witB
  simp only [Bool.or_eq_true, Bool.and_eq_true, decide_eq_true_eq] at h ⊢
  rcases h with (h | h) | h
  · exact .inr (.inl h)
  · exact .inl h
  · exact .inr (.inr (.inr h.1))
theorem name_gt {l : List Int} {k : Nat} (h : inN l k = true) : k < (name l k).2 ∧ (name l k).2 ≤ l.length := by
  have ho := oneN_le h
  rw [name_yes h]
  have := name_le l _ (oneN l k).2 (Nat.le_refl _) ho.2
  simp only
  omega
theorem qq_le (l : List Int) (e : Int) : ∀ (m k : Nat), l.length + 1 - k ≤ m → k ≤ l.length + 1 → min k l.length ≤ (qq l e k).2.2 ∧ (qq l e k).2.2 ≤ l.length
  | m, k, hm, hk => by
    by_cases h : k < l.length ∧ g l k ≠ e
    · rw [qq_step h]
      match m, hm with
      | 0, hm => omega
      | m + 1, hm =>
        split
        · simp only; omega
        · split
          · rename_i he
            have hl := meant_le (esc_lt he).1
            have ih := qq_le l e m (meant l k).2 (by omega) (by omega)
            unfold push
            simp only
            omega
          · split
            · have ih := qq_le l e m (k + 2) (by omega) (by omega)
              omega
            · have ih := qq_le l e m (k + 1) (by omega) (by omega)
              unfold push
              simp only
              omega
    · rw [qq_end h]
      simp only
      omega
theorem rest_le {l : List Int} {k : Nat} (hk : k < l.length) : k < (rest l k).2.2.2 ∧ (rest l k).2.2.2 ≤ l.length := by
  unfold rest
  split
  · rename_i h
    have := name_gt (begs_in h.2)
    simp only; omega
  · split
    · rename_i h
      have := name_gt (begs_in h)
      split
      · rename_i h40
        have := at_lt (l := l) (k := (name l k).2) (fun e => by rw [e] at h40; exact absurd h40 (by decide))
        simp only; omega
      · simp only; omega
    · split
      · simp only; omega
      · split
        · simp only; omega
        · split
          · simp only; omega
          · simp only; omega
theorem nxt_le {l : List Int} {k : Nat} (hk : k < l.length) : k < (nxt l k).2.2.2 ∧ (nxt l k).2.2.2 ≤ l.length := by
  unfold nxt
  split
  · have := qq_le l (g l k) _ (k + 1) (Nat.le_refl _) (by omega)
    simp only; omega
  · split
    · rename_i h
      have hin : inN l (k + 1) = true := by
        unfold inN
        rcases h.2 with h | h
        · rw [h, Bool.or_true]
        · rw [h, Bool.true_or]
      have := name_gt hin
      simp only; omega
    · split
      · rename_i h
        have hn := nlen_le l k (by omega)
        split
        · rename_i h2
          have := name_gt (begs_in h2)
          simp only; omega
        · split
          · rename_i h37
            have := at_lt (l := l) (k := k + nlen l k) (fun e => by rw [e] at h37; exact absurd h37 (by decide))
            simp only; omega
          · simp only; omega
      · exact rest_le hk

/-- a token: its kind, its text, its number -/
abbrev Tok := Int × ByteArray × Int
def tokOf (r : Int × ByteArray × Int × Nat) : Tok := (r.1, r.2.1, r.2.2.1)
def spTok (b : Bool) : List Tok := if b = true then [(1, ⟨#[]⟩, 0)] else []
/-- the tokens from a place on -/
def scan (l : List Int) (k : Nat) : List Tok :=
  if _h : k < l.length then
    spTok (sp l k false).2 ++ (if _h2 : (sp l k false).1 < l.length then tokOf (nxt l (sp l k false).1) :: scan l (nxt l (sp l k false).1).2.2.2 else [])
  else []
termination_by l.length - k
decreasing_by
  have h1 := sp_le l k false (by omega)
  have h3 := nxt_le (by assumption)
  omega
theorem scan_on {l : List Int} {k : Nat} (h : k < l.length) (h2 : (sp l k false).1 < l.length) :
    scan l k = (spTok (sp l k false).2 ++ [tokOf (nxt l (sp l k false).1)]) ++ scan l (nxt l (sp l k false).1).2.2.2 := by
  rw [scan, dif_pos h, dif_pos h2, List.append_assoc]; rfl
theorem scan_last {l : List Int} {k : Nat} (h : k < l.length) (h2 : ¬ (sp l k false).1 < l.length) : scan l k = spTok (sp l k false).2 := by
  rw [scan, dif_pos h, dif_neg h2, List.append_nil]
theorem scan_end {l : List Int} {k : Nat} (h : ¬ k < l.length) : scan l k = [] := by
  rw [scan, dif_neg h]
theorem spTok_len (b : Bool) : (spTok b).length ≤ 1 := by
  unfold spTok; split <;> simp
theorem scan_len (l : List Int) : ∀ (m k : Nat), l.length - k ≤ m → (scan l k).length ≤ 2 * (l.length - k)
  | m, k, hm => by
    by_cases h : k < l.length
    · have h1 := sp_le l k false (by omega)
      have h5 := spTok_len (sp l k false).2
      by_cases h2 : (sp l k false).1 < l.length
      · have h3 := nxt_le (by assumption)
        rw [scan_on h h2]
        match m, hm with
        | 0, hm => omega
        | m + 1, hm =>
          have ih := scan_len l m (nxt l (sp l k false).1).2.2.2 (by omega)
          simp only [List.length_append, List.length_cons, List.length_nil]
          omega
      · rw [scan_last h h2]; omega
    · rw [scan_end h]; simp
/-- the cells of tokens, side by side -/
def cells (ts : List Tok) : List Value := ts.flatMap fun t => [.int .i64 t.1, .string t.2.1, .int .i64 t.2.2]
theorem cells_len (ts : List Tok) : (cells ts).length = ts.length * 3 := by
  unfold cells
  induction ts with
  | nil => rfl
  | cons t ts ih => rw [List.flatMap_cons, List.length_append, ih, List.length_cons]; simp; omega
theorem cells_app (ts us : List Tok) : cells (ts ++ us) = cells ts ++ cells us := by unfold cells; rw [List.flatMap_append]
end Tk
end Go.Proofs.YtgcmjkimiakibaaGreatDoor

/-
  Plain mathematics: the longest decimal with which a text begins is one, and no longer beginning is.
-/
namespace Go.Proofs.YtgcmjkimiakibaaGreatDoor
namespace Fx
theorem at_take (l : List UInt8) {k i : Nat} (h : i < k) : at' (l.take k) i = at' l i := by
  unfold at'; rw [List.getD_eq_getElem?_getD, List.getD_eq_getElem?_getD, List.getElem?_take_of_lt h]
theorem at_take_past (l : List UInt8) {k i : Nat} (h : k ≤ i) : at' (l.take k) i = 0 := by
  apply at_zero; rw [List.length_take]; omega
theorem sgn_take (l : List UInt8) {k i : Nat} (h : i < k) : sgn (l.take k) i = sgn l i := by
  unfold sgn; rw [at_take l h]
theorem sgn_take_past (l : List UInt8) {k i : Nat} (h : k ≤ i) : sgn (l.take k) i = i := by
  unfold sgn; rw [at_take_past l h]; exact if_neg (by decide)
theorem dig_past {l : List UInt8} {a : Nat} (h : l.length ≤ a) : dig l a = a := dig_no l a (by rw [at_zero (by omega)]; exact isD_zero)
/-- the digits that stand from a place on, of a beginning -/
theorem dig_take (l : List UInt8) (k : Nat) : ∀ n a, n = k - a → a ≤ k → dig (l.take k) a = min (dig l a) k := by
  intro n
  induction n with
  | zero =>
    intro a hn ha
    have h0 : a = k := by omega
    subst h0
    rw [dig_past (by rw [List.length_take]; omega)]
    have := dig_lo l a; omega
  | succ n ih =>
    intro a hn ha
    have hlt : a < k := by omega
    cases hd : isD (at' l a)
    · rw [dig_no (l.take k) a (by rw [at_take l hlt]; exact hd), dig_no l a hd]; omega
    · rw [dig_yes (l.take k) a (by rw [at_take l hlt]; exact hd), dig_yes l a hd]
      exact ih (a + 1) (by omega) (by omega)
theorem dig_take' (l : List UInt8) {k a : Nat} (h : a ≤ k) : dig (l.take k) a = min (dig l a) k := dig_take l k _ a rfl h

theorem len_take {l : List UInt8} {k : Nat} (h : k ≤ l.length) : (l.take k).length = k := by rw [List.length_take]; omega

theorem spS_take (l : List UInt8) {k : Nat} (h : 0 < k) : spS (l.take k) = spS l := sgn_take l h
theorem spW_take (l : List UInt8) {k : Nat} (h : 0 < k) : spW (l.take k) = min (spW l) k := by
  have h1 := spS_one l
  have e : spW (l.take k) = dig (l.take k) (spS (l.take k)) := rfl
  rw [e, spS_take l h, dig_take' l (by omega)]; rfl

theorem len_pos {l : List UInt8} (h : spD l ≠ spS l) : len l = spE l := by unfold len; rw [if_neg h]
theorem spDof_is (l : List UInt8) (w : Nat) : (at' l w = 46 ∧ w + 1 < dig l (w + 1) ∧ spDof l w = dig l (w + 1)) ∨ (¬ (at' l w = 46 ∧ w + 1 < dig l (w + 1)) ∧ spDof l w = w) := by
  unfold spDof
  by_cases h : at' l w = 46 ∧ w + 1 < dig l (w + 1)
  · rw [if_pos h]; exact Or.inl ⟨h.1, h.2, rfl⟩
  · rw [if_neg h]; exact Or.inr ⟨h, rfl⟩
theorem spEof_is (l : List UInt8) (d : Nat) : ((at' l d = 101 ∨ at' l d = 69) ∧ sgn l (d + 1) < dig l (sgn l (d + 1)) ∧ spEof l d = dig l (sgn l (d + 1))) ∨ (¬ ((at' l d = 101 ∨ at' l d = 69) ∧ sgn l (d + 1) < dig l (sgn l (d + 1))) ∧ spEof l d = d) := by
  unfold spEof
  by_cases h : (at' l d = 101 ∨ at' l d = 69) ∧ sgn l (d + 1) < dig l (sgn l (d + 1))
  · rw [if_pos h]; exact Or.inl ⟨h.1, h.2, rfl⟩
  · rw [if_neg h]; exact Or.inr ⟨h, rfl⟩

/-- no beginning that is longer than the longest decimal is one -/
theorem begins_no {l : List UInt8} {k : Nat} (hk : k ≤ l.length) (hl : len l < k) : isDec (l.take k) = false := by
  cases hd : isDec (l.take k)
  · rfl
  exfalso
  obtain ⟨hn, hE⟩ := isDec_of hd
  rw [len_take hk] at hE
  have k0 : 0 < k := by omega
  have eS := spS_take l k0
  have eW := spW_take l k0
  have l1 := spW_lo l
  have l2 := spD_lo l
  have l3 := spE_lo l
  have s1 := spS_one l
  rw [eS] at hn
  have fin : spD l ≠ spS l → spE l < k := fun h => by rw [len_pos h] at hl; exact hl
  have dD : spD (l.take k) = spDof (l.take k) (spW (l.take k)) := rfl
  have dE : spE (l.take k) = spEof (l.take k) (spD (l.take k)) := rfl
  by_cases hW : k ≤ spW l
  · rw [show min (spW l) k = k by omega] at eW
    rw [eW] at dD
    have e1 : spDof (l.take k) k = k := by
      rcases spDof_is (l.take k) k with ⟨h, _⟩ | ⟨_, h⟩
      · rw [at_take_past l (Nat.le_refl _)] at h; exact absurd h (by decide)
      · exact h
    have : spD l ≠ spS l := by omega
    have := fin this
    omega
  · rw [show min (spW l) k = spW l by omega] at eW
    rw [eW] at dD
    -- the part behind the point
    have hcase : (spD (l.take k) = k ∧ k ≤ spD l) ∨ (spD (l.take k) = spD l ∧ spD l < k) ∨ (spD (l.take k) = spW l ∧ at' l (spW l) = 46) := by
      have d0 : spD l = spDof l (spW l) := rfl
      rcases spDof_is (l.take k) (spW l) with ⟨a1, a2, a3⟩ | ⟨a1, a2⟩
      · rw [at_take l (by omega)] at a1
        rw [dig_take' l (by omega)] at a2 a3
        rcases spDof_is l (spW l) with ⟨_, b2, b3⟩ | ⟨b1, _⟩
        · by_cases hg : k ≤ dig l (spW l + 1)
          · left; omega
          · right; left; omega
        · exact absurd ⟨a1, by omega⟩ b1
      · by_cases a46 : at' l (spW l) = 46
        · right; right; exact ⟨by omega, a46⟩
        · right; left
          rcases spDof_is l (spW l) with ⟨b1, _⟩ | ⟨_, b2⟩
          · exact absurd b1 a46
          · omega
    rcases hcase with ⟨c1, c2⟩ | ⟨c1, c2⟩ | ⟨c1, c2⟩
    · have : spD l ≠ spS l := by omega
      have := fin this
      omega
    · have hne : spD l ≠ spS l := by omega
      have hE2 := fin hne
      rw [c1] at dE
      have d0 : spE l = spEof l (spD l) := rfl
      rcases spEof_is (l.take k) (spD l) with ⟨a1, a2, a3⟩ | ⟨_, a2⟩
      · rw [at_take l c2] at a1
        by_cases h1 : spD l + 1 < k
        · rw [sgn_take l h1] at a2 a3
          have hs : sgn l (spD l + 1) ≤ spD l + 2 := by unfold sgn; split <;> omega
          rw [dig_take' l (by omega)] at a2 a3
          rcases spEof_is l (spD l) with ⟨_, b2, b3⟩ | ⟨b1, _⟩
          · omega
          · exact absurd ⟨a1, by omega⟩ b1
        · rw [sgn_take_past l (by omega), dig_past (by rw [len_take hk]; omega)] at a2
          omega
      · omega
    · rw [c1] at dE
      have : spEof (l.take k) (spW l) = spW l := by
        rcases spEof_is (l.take k) (spW l) with ⟨a1, _⟩ | ⟨_, a2⟩
        · rw [at_take l (by omega), c2] at a1
          exact absurd a1 (by decide)
        · exact a2
      omega

/-- the longest decimal is one -/
theorem begins_yes {l : List UInt8} (h0 : 0 < len l) : isDec (l.take (len l)) = true := by
  have hn : spD l ≠ spS l := by
    intro h
    unfold len at h0; rw [if_pos h] at h0; omega
  rw [len_pos hn] at *
  have hk := spE_hi l
  have eS := spS_take l h0
  have eW := spW_take l h0
  have l1 := spW_lo l
  have l2 := spD_lo l
  have l3 := spE_lo l
  have s1 := spS_one l
  generalize hkk : spE l = k at *
  rw [show min (spW l) k = spW l by omega] at eW
  have dD : spD (l.take k) = spDof (l.take k) (spW (l.take k)) := rfl
  have dE : spE (l.take k) = spEof (l.take k) (spD (l.take k)) := rfl
  rw [eW] at dD
  have d0 : spD l = spDof l (spW l) := rfl
  have e0 : k = spEof l (spD l) := hkk.symm
  have eD : spD (l.take k) = spD l := by
    rcases spDof_is l (spW l) with ⟨b1, b2, b3⟩ | ⟨b1, b2⟩
    · rcases spDof_is (l.take k) (spW l) with ⟨_, _, a3⟩ | ⟨a1, _⟩
      · rw [dig_take' l (by omega)] at a3; omega
      · exact absurd ⟨(at_take l (by omega)).trans b1, by rw [dig_take' l (by omega)]; omega⟩ a1
    · rcases spDof_is (l.take k) (spW l) with ⟨a1, a2, _⟩ | ⟨_, a2⟩
      · exfalso
        by_cases hw : spW l < k
        · rw [at_take l hw] at a1
          rw [dig_take' l (by omega)] at a2
          exact b1 ⟨a1, by omega⟩
        · rw [at_take_past l (by omega)] at a1
          exact absurd a1 (by decide)
      · omega
  rw [eD] at dE
  have eE : spE (l.take k) = k := by
    rcases spEof_is l (spD l) with ⟨b1, b2, b3⟩ | ⟨_, b2⟩
    · have g1 := sgn_lo l (spD l + 1)
      rcases spEof_is (l.take k) (spD l) with ⟨_, _, a3⟩ | ⟨a1, _⟩
      · rw [sgn_take l (by omega), dig_take' l (by omega)] at a3; omega
      · exact absurd ⟨by rw [at_take l (by omega)]; exact b1, by rw [sgn_take l (by omega), dig_take' l (by omega)]; omega⟩ a1
    · rcases spEof_is (l.take k) (spD l) with ⟨a1, _⟩ | ⟨_, a2⟩
      · rw [at_take_past l (by omega)] at a1
        exact absurd a1 (by decide)
      · omega
  unfold isDec
  apply decide_eq_true
  unfold len
  rw [if_neg (by rw [eD, eS]; exact hn), eE, len_take hk]
  exact ⟨by omega, rfl⟩
end Fx
end Go.Proofs.YtgcmjkimiakibaaGreatDoor
