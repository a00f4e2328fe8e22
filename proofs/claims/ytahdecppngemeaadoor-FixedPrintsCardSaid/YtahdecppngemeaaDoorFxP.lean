/-
  Plain mathematics: what is printed is a decimal, and which number it is, with an exponent behind it or without.
-/
import Derived.Test.YtahdecppngemeaaDoorFxH
import Derived.Test.YtahdecppngemeaaDoorFxL
namespace Go.Proofs.YtahdecppngemeaaDoor
namespace Fx
theorem at_app (P R : List UInt8) (i : Nat) : at' (P ++ R) (P.length + i) = at' R i := by
  unfold at'
  rw [List.getD_eq_getElem?_getD, List.getD_eq_getElem?_getD, List.getElem?_append_right (by omega), show P.length + i - P.length = i by omega]
theorem at_app0 (P R : List UInt8) : at' (P ++ R) P.length = at' R 0 := at_app P R 0
theorem at_cons (c : UInt8) (R : List UInt8) : at' (c :: R) 0 = c := rfl
theorem at_nil : at' [] 0 = 0 := rfl
theorem dig_app (P A R : List UInt8) (hA : ∀ c ∈ A, isD c = true) (hR : isD (at' R 0) = false) : dig (P ++ (A ++ R)) P.length = P.length + A.length := by
  unfold dig
  rw [List.drop_left, List.takeWhile_append_of_pos hA]
  have : R.takeWhile isD = [] := by
    cases R with
    | nil => rfl
    | cons c R => rw [List.takeWhile_cons, show isD c = false from hR]; rfl
  rw [this, List.append_nil]
theorem seg_app (P A R : List UInt8) : seg (P ++ (A ++ R)) P.length (P.length + A.length) = A := by
  unfold seg
  rw [List.drop_left, show P.length + A.length - P.length = A.length by omega, List.take_left]

theorem at_of {l P R : List UInt8} {k : Nat} (hl : l = P ++ R) (hk : k = P.length) : at' l k = at' R 0 := by subst hl hk; exact at_app0 P R
theorem dig_of {l P A R : List UInt8} {k : Nat} (hl : l = P ++ (A ++ R)) (hk : k = P.length) (hA : ∀ c ∈ A, isD c = true) (hR : isD (at' R 0) = false) : dig l k = k + A.length := by
  subst hl hk; exact dig_app P A R hA hR
theorem seg_of {l P A R : List UInt8} {a b : Nat} (hl : l = P ++ (A ++ R)) (ha : a = P.length) (hb : b = P.length + A.length) : seg l a b = A := by
  subst hl ha hb; exact seg_app P A R

/-- the parts of a text that is a decimal -/
structure Parts (S W F E fr sg ds : List UInt8) : Prop where
  hS : S = [] ∨ S = [45]
  hW : ∀ c ∈ W, isD c = true
  hW0 : W ≠ []
  hF : (F = [] ∧ fr = []) ∨ (F = 46 :: fr ∧ fr ≠ [])
  hfr : ∀ c ∈ fr, isD c = true
  hE : E = [] ∨ (E = 101 :: (sg ++ ds) ∧ ds ≠ [])
  hds : ∀ c ∈ ds, isD c = true
  hsg : sg = [] ∨ sg = [43] ∨ sg = [45]

variable {S W F E fr sg ds : List UInt8}
theorem isD_head {A R : List UInt8} (h0 : A ≠ []) (h : ∀ c ∈ A, isD c = true) : isD (at' (A ++ R) 0) = true := by
  cases A with
  | nil => exact absurd rfl h0
  | cons c A => exact h c (by simp)
theorem isD_ne {c : UInt8} (h : isD c = true) : c ≠ 43 ∧ c ≠ 45 ∧ c ≠ 46 := by
  refine ⟨?_, ?_, ?_⟩ <;> (rintro rfl; exact absurd h (by decide))

theorem Parts.spS (h : Parts S W F E fr sg ds) : spS (S ++ (W ++ (F ++ E))) = S.length := by
  rcases h.hS with rfl | rfl
  · have hd := isD_head (R := F ++ E) h.hW0 h.hW
    have hn := isD_ne hd
    unfold Fx.spS sgn
    rw [List.nil_append, if_neg (by rintro (h | h); exact hn.1 h; exact hn.2.1 h)]; rfl
  · rfl
theorem Parts.headFE (h : Parts S W F E fr sg ds) : isD (at' (F ++ E) 0) = false := by
  rcases h.hF with ⟨rfl, _⟩ | ⟨rfl, _⟩
  · rcases h.hE with rfl | ⟨rfl, _⟩ <;> rfl
  · rfl
theorem Parts.headE (h : Parts S W F E fr sg ds) : isD (at' E 0) = false ∧ at' E 0 ≠ 46 := by
  rcases h.hE with rfl | ⟨rfl, _⟩
  · exact ⟨rfl, by decide⟩
  · exact ⟨rfl, by rw [at_cons]; decide⟩
theorem Parts.spW (h : Parts S W F E fr sg ds) : spW (S ++ (W ++ (F ++ E))) = S.length + W.length := by
  unfold Fx.spW
  rw [h.spS]
  exact dig_app S W (F ++ E) h.hW h.headFE
theorem Parts.spD (h : Parts S W F E fr sg ds) : spD (S ++ (W ++ (F ++ E))) = S.length + W.length + F.length := by
  unfold Fx.spD
  rw [h.spW]
  have e0 : at' (S ++ (W ++ (F ++ E))) (S.length + W.length) = at' (F ++ E) 0 := by
    rw [← List.append_assoc, ← List.length_append]; exact at_app0 _ _
  unfold spDof
  rw [e0]
  rcases h.hF with ⟨rfl, _⟩ | ⟨rfl, hf⟩
  · rw [if_neg (fun c => h.headE.2 c.1)]; rfl
  · have e1 : dig (S ++ (W ++ (46 :: fr ++ E))) (S.length + W.length + 1) = S.length + W.length + 1 + fr.length := by
      exact dig_of (P := S ++ W ++ [46]) (R := E) (by simp) (by simp only [List.length_append, List.length_cons, List.length_nil]; try omega) h.hfr h.headE.1
    have hp : 0 < fr.length := List.length_pos_iff.2 hf
    rw [e1, if_pos ⟨rfl, by omega⟩, List.length_cons]; omega
theorem Parts.fromE' (h : Parts S W F E fr sg ds) (hE : E = 101 :: (sg ++ ds)) (hd : ds ≠ []) : sgn (S ++ (W ++ (F ++ E))) (S.length + W.length + F.length + 1) = S.length + W.length + F.length + 1 + sg.length := by
  subst hE
  have e1 : at' (S ++ (W ++ (F ++ 101 :: (sg ++ ds)))) (S.length + W.length + F.length + 1) = at' (sg ++ ds) 0 := at_of (P := S ++ W ++ F ++ [101]) (by simp) (by simp only [List.length_append, List.length_cons, List.length_nil]; try omega)
  unfold sgn
  rw [e1]
  rcases h.hsg with rfl | rfl | rfl
  · have hn := isD_ne (isD_head (R := []) hd h.hds)
    rw [List.append_nil] at hn
    rw [List.nil_append, if_neg (by rintro (h | h); exact hn.1 h; exact hn.2.1 h)]; rfl
  · rfl
  · rfl
theorem Parts.expAt (_h : Parts S W F E fr sg ds) (hE : E = 101 :: (sg ++ ds)) : at' (S ++ (W ++ (F ++ E))) (S.length + W.length + F.length + 1) = at' (sg ++ ds) 0 := by
  subst hE
  exact at_of (P := S ++ W ++ F ++ [101]) (by simp) (by simp only [List.length_append, List.length_cons, List.length_nil]; try omega)
theorem Parts.digE (h : Parts S W F E fr sg ds) (hE : E = 101 :: (sg ++ ds)) : dig (S ++ (W ++ (F ++ E))) (S.length + W.length + F.length + 1 + sg.length) = S.length + W.length + F.length + 1 + sg.length + ds.length := by
  subst hE
  exact dig_of (P := S ++ W ++ F ++ [101] ++ sg) (R := []) (by simp) (by simp only [List.length_append, List.length_cons, List.length_nil]; try omega) h.hds (by decide)
theorem Parts.spE (h : Parts S W F E fr sg ds) : spE (S ++ (W ++ (F ++ E))) = (S ++ (W ++ (F ++ E))).length := by
  unfold Fx.spE
  rw [h.spD]
  have e0 : at' (S ++ (W ++ (F ++ E))) (S.length + W.length + F.length) = at' E 0 := at_of (P := S ++ W ++ F) (by simp) (by simp only [List.length_append])
  unfold spEof
  rw [e0]
  rcases h.hE with rfl | ⟨hE, hd⟩
  · rw [if_neg (by intro c; exact absurd c.1 (by decide))]
    simp; omega
  · have hp : 0 < ds.length := List.length_pos_iff.2 hd
    rw [h.fromE' hE hd, h.digE hE, if_pos ⟨Or.inl (by rw [hE]; rfl), by omega⟩, hE]
    simp; omega
theorem Parts.isDec (h : Parts S W F E fr sg ds) : isDec (S ++ (W ++ (F ++ E))) = true := by
  unfold Fx.isDec
  apply decide_eq_true
  have hp : 0 < W.length := List.length_pos_iff.2 h.hW0
  unfold len
  rw [h.spD, h.spS, if_neg (by omega), h.spE]
  refine ⟨?_, rfl⟩
  simp only [List.length_append]; omega
theorem Parts.digs (h : Parts S W F E fr sg ds) : digs (S ++ (W ++ (F ++ E))) = W.map dv ++ fr.map dv := by
  unfold Fx.digs
  rw [h.spS, h.spW, h.spD, seg_app]
  congr 2
  rcases h.hF with ⟨rfl, rfl⟩ | ⟨rfl, _⟩
  · unfold seg
    rw [List.length_nil, show S.length + W.length + 0 - (S.length + W.length + 1) = 0 by omega]; rfl
  · exact seg_of (P := S ++ W ++ [46]) (R := E) (by simp) (by simp only [List.length_append, List.length_cons, List.length_nil]; try omega) (by simp only [List.length_append, List.length_cons, List.length_nil]; try omega)
theorem Parts.place0 (h : Parts S W F E fr sg ds) : place0 (S ++ (W ++ (F ++ E))) = W.length := by
  unfold Fx.place0; rw [h.spS, h.spW]; omega
theorem Parts.expo_nil (h : Parts S W F [] fr sg ds) : expo (S ++ (W ++ (F ++ []))) = 0 := by
  unfold expo
  rw [if_pos]
  rw [h.spE, h.spD]; simp; omega
theorem Parts.expo_one (h : Parts S W F E fr sg ds) (hE : E = 101 :: (sg ++ ds)) (hd : ds ≠ []) (hl : ds.length ≤ 6) : expo (S ++ (W ++ (F ++ E))) = if sg = [45] then -(valFrom 0 ds : Int) else valFrom 0 ds := by
  have hp : 0 < ds.length := List.length_pos_iff.2 hd
  have hlen : (S ++ (W ++ (F ++ E))).length = S.length + W.length + F.length + 1 + sg.length + ds.length := by rw [hE]; simp; omega
  unfold expo expMag fromE
  have hne : ¬ S.length + W.length + F.length + 1 + sg.length + ds.length = S.length + W.length + F.length := by omega
  have hle : S.length + W.length + F.length + 1 + sg.length + ds.length - (S.length + W.length + F.length + 1 + sg.length) ≤ 6 := by omega
  rw [h.spE, h.spD, h.fromE' hE hd, h.expAt hE, hlen, if_neg hne, if_pos hle]
  have e : seg (S ++ (W ++ (F ++ E))) (S.length + W.length + F.length + 1 + sg.length) (S.length + W.length + F.length + 1 + sg.length + ds.length) = ds := by
    subst hE
    exact seg_of (P := S ++ W ++ F ++ [101] ++ sg) (R := []) (by simp) (by simp only [List.length_append, List.length_cons, List.length_nil]; try omega) (by simp only [List.length_append, List.length_cons, List.length_nil]; try omega)
  rw [e]
  rcases h.hsg with rfl | rfl | rfl
  · have hn := isD_ne (isD_head (R := []) hd h.hds)
    rw [List.append_nil] at hn
    rw [List.nil_append, if_neg hn.2.1, if_neg (by decide)]
  · rw [show at' ([43] ++ ds) 0 = 43 from rfl, if_neg (by decide), if_neg (by decide)]
  · rw [show at' ([45] ++ ds) 0 = 45 from rfl, if_pos rfl, if_pos rfl]
theorem Parts.sign (h : Parts S W F E fr sg ds) : at' (S ++ (W ++ (F ++ E))) 0 = 45 ↔ S = [45] := by
  rcases h.hS with rfl | rfl
  · have hn := isD_ne (isD_head (R := F ++ E) h.hW0 h.hW)
    rw [List.nil_append]
    exact ⟨fun e => absurd e hn.2.1, fun e => by cases e⟩
  · exact ⟨fun _ => rfl, fun _ => rfl⟩

/-- the number that digits make -/
def val (D : List Nat) : Nat := D.foldl (fun a d => a * 10 + d) 0
theorem val_from (D : List Nat) : ∀ a, D.foldl (fun a d => a * 10 + d) a = a * 10 ^ D.length + val D := by
  induction D with
  | nil => intro a; simp [val]
  | cons d D ih =>
    intro a
    unfold val
    rw [List.foldl_cons, List.foldl_cons, ih, ih (0 * 10 + d), List.length_cons, Nat.pow_succ, Nat.add_mul, show 0 * 10 + d = d by omega]
    have : a * 10 * 10 ^ D.length = a * (10 ^ D.length * 10) := by rw [Nat.mul_assoc, Nat.mul_comm 10]
    omega
theorem val_append (A B : List Nat) : val (A ++ B) = val A * 10 ^ B.length + val B := by
  unfold val; rw [List.foldl_append]; exact val_from B _
theorem val_map (l : List UInt8) : val (l.map dv) = valFrom 0 l := by
  unfold val valFrom; rw [List.foldl_map]
theorem V_take (f : Nat → Nat) (D : List Nat) (hf : ∀ i, D.getD i 0 = f i) : ∀ k, k ≤ D.length → V f k = val (D.take k) := by
  intro k
  induction k with
  | zero => intro _; rfl
  | succ k ih =>
    intro hk
    have e : D.take (k + 1) = D.take k ++ [f k] := by
      rw [List.take_succ_eq_append_getElem (by omega), ← hf k, List.getD_eq_getElem?_getD, List.getElem?_eq_getElem (by omega)]; rfl
    rw [V_succ, ih (by omega), e, val_append]
    simp [val]
theorem V_zeros (f : Nat → Nat) (n : Nat) (hf : ∀ i, n ≤ i → f i = 0) : ∀ j, V f (n + j) = V f n * 10 ^ j := by
  intro j
  induction j with
  | zero => simp
  | succ j ih =>
    rw [show n + (j + 1) = (n + j) + 1 by omega, V_succ, ih, hf _ (by omega), Nat.pow_succ, Nat.mul_assoc]; rfl
theorem V_div (f : Nat → Nat) (hf : ∀ i, f i ≤ 9) (n : Nat) : ∀ j, V f n = V f (n + j) / 10 ^ j := by
  intro j
  induction j with
  | zero => simp
  | succ j ih =>
    have := hf (n + j)
    rw [show n + (j + 1) = (n + j) + 1 by omega, V_succ, Nat.pow_succ, Nat.mul_comm (10 ^ j), ← Nat.div_div_eq_div_mul, show (V f (n + j) * 10 + f (n + j)) / 10 = V f (n + j) by omega]
    exact ih

theorem decDigits_isD (w : Nat) : ∀ c ∈ Lib.decDigits w, isD c = true := by
  induction w using Nat.strongRecOn with
  | _ w ih =>
    rw [Lib.decDigits]
    have hd : ∀ n, n < 10 → isD (UInt8.ofNat (48 + n)) = true := by decide
    by_cases h : w < 10
    · rw [dif_pos h]; intro c hc; rw [List.mem_singleton.1 hc]; exact hd w h
    · rw [dif_neg h]; intro c hc
      rcases List.mem_append.1 hc with hc | hc
      · exact ih (w / 10) (by omega) c hc
      · rw [List.mem_singleton.1 hc]; exact hd _ (by omega)
theorem decDigits_ne (w : Nat) : Lib.decDigits w ≠ [] := by
  have h1 := Lib.decDigits_length w
  have h2 := Lib.nDigits_pos w
  intro h; rw [h] at h1; simp at h1; omega
theorem dv_dg {n : Nat} (h : n < 10) : dv (dg n) = n := by
  unfold dv dg; rw [UInt8.toNat_ofNat']; omega
theorem isD_dg {n : Nat} (h : n < 10) : isD (dg n) = true := by
  unfold isD dg
  apply decide_eq_true
  rw [UInt8.toNat_ofNat']; omega
theorem decDigits_val (w : Nat) : valFrom 0 (Lib.decDigits w) = w := by
  induction w using Nat.strongRecOn with
  | _ w ih =>
    rw [Lib.decDigits]
    by_cases h : w < 10
    · rw [dif_pos h]
      show 0 * 10 + dv (dg w) = w
      rw [dv_dg h]; omega
    · rw [dif_neg h]
      unfold valFrom
      rw [List.foldl_append]
      show valFrom 0 (Lib.decDigits (w / 10)) * 10 + dv (dg (w % 10)) = w
      rw [ih (w / 10) (by omega), dv_dg (by omega)]; omega

/-- what the digits behind the point are -/
theorem frac_facts {r : Nat} (h : r < 1000) (h0 : ¬ r = 0) : frac r ≠ [] ∧ (∀ c ∈ frac r, isD c = true) ∧ (frac r).length ≤ 3 ∧ valFrom 0 (frac r) * 10 ^ (3 - (frac r).length) = r := by
  rw [frac_eq h h0]
  have d1 := isD_dg (n := r / 100) (by omega)
  have d2 := isD_dg (n := r / 10 % 10) (by omega)
  have d3 := isD_dg (n := r % 10) (by omega)
  have v1 := dv_dg (n := r / 100) (by omega)
  have v2 := dv_dg (n := r / 10 % 10) (by omega)
  have v3 := dv_dg (n := r % 10) (by omega)
  by_cases c1 : 0 < r % 100 <;> by_cases c0 : 0 < r % 10
  · rw [if_pos c1, if_pos c0]
    refine ⟨by simp, by simp [d1, d2, d3], by simp, ?_⟩
    simp [valFrom, v1, v2, v3]; omega
  · rw [if_pos c1, if_neg c0]
    refine ⟨by simp, by simp [d1, d2], by simp, ?_⟩
    simp [valFrom, v1, v2]; omega
  · omega
  · rw [if_neg c1, if_neg c0]
    refine ⟨by simp, by simp [d1], by simp, ?_⟩
    simp [valFrom, v1]; omega

/-- the text of a number, in parts -/
def fracOf (m : Nat) : List UInt8 := if m % 1000 = 0 then [] else frac (m % 1000)
theorem text_parts (neg : Bool) (m : Nat) (E sg ds : List UInt8) (hE : E = [] ∨ (E = 101 :: (sg ++ ds) ∧ ds ≠ [])) (hds : ∀ c ∈ ds, isD c = true) (hsg : sg = [] ∨ sg = [43] ∨ sg = [45]) :
    Parts (if neg then [45] else []) (Lib.decDigits (m / 1000)) (if m % 1000 = 0 then [] else 46 :: frac (m % 1000)) E (fracOf m) sg ds := by
  refine ⟨by cases neg <;> simp, decDigits_isD _, decDigits_ne _, ?_, ?_, hE, hds, hsg⟩
  · unfold fracOf
    by_cases h : m % 1000 = 0
    · rw [if_pos h, if_pos h]; exact Or.inl ⟨rfl, rfl⟩
    · rw [if_neg h, if_neg h]; exact Or.inr ⟨rfl, (frac_facts (by omega) h).1⟩
  · unfold fracOf
    by_cases h : m % 1000 = 0
    · rw [if_pos h]; intro c hc; cases hc
    · rw [if_neg h]; exact (frac_facts (by omega) h).2.1
theorem fracOf_val (m : Nat) : (fracOf m).length ≤ 3 ∧ valFrom 0 (fracOf m) * 10 ^ (3 - (fracOf m).length) = m % 1000 := by
  unfold fracOf
  by_cases h : m % 1000 = 0
  · rw [if_pos h, h]; exact ⟨by decide, rfl⟩
  · rw [if_neg h]; exact ⟨(frac_facts (by omega) h).2.2.1, (frac_facts (by omega) h).2.2.2⟩
theorem textOf_app (neg : Bool) (m : Nat) (E : List UInt8) : textOf neg m ++ E = (if neg then [45] else []) ++ (Lib.decDigits (m / 1000) ++ ((if m % 1000 = 0 then [] else 46 :: frac (m % 1000)) ++ E)) := by
  unfold textOf; simp [List.append_assoc]

/-- all thousandths of a text, whatever exponent stands behind it -/
theorem text_V (neg : Bool) (m : Nat) (E sg ds : List UInt8) (hE : E = [] ∨ (E = 101 :: (sg ++ ds) ∧ ds ≠ [])) (hds : ∀ c ∈ ds, isD c = true) (hsg : sg = [] ∨ sg = [43] ∨ sg = [45]) :
    V (dgt (textOf neg m ++ E)) ((Lib.decDigits (m / 1000)).length + 3) = m ∧ (∀ i, (Lib.decDigits (m / 1000)).length + 3 ≤ i → dgt (textOf neg m ++ E) i = 0) := by
  have hp := text_parts neg m E sg ds hE hds hsg
  have hD := hp.digs
  obtain ⟨f1, f2⟩ := fracOf_val m
  rw [textOf_app]
  have hg := digs_get ((if neg then [45] else []) ++ (Lib.decDigits (m / 1000) ++ ((if m % 1000 = 0 then [] else 46 :: frac (m % 1000)) ++ E)))
  generalize hll : (if neg then [45] else []) ++ (Lib.decDigits (m / 1000) ++ ((if m % 1000 = 0 then [] else 46 :: frac (m % 1000)) ++ E)) = l at *
  have hlen : (digs l).length = (Lib.decDigits (m / 1000)).length + (fracOf m).length := by rw [hD]; simp
  have hz : ∀ i, (digs l).length ≤ i → dgt l i = 0 := fun i hi => by
    rw [← hg i, List.getD_eq_getElem?_getD, List.getElem?_eq_none hi]; rfl
  refine ⟨?_, fun i hi => hz i (by omega)⟩
  have e1 := V_zeros (dgt l) (digs l).length hz (3 - (fracOf m).length)
  rw [show (digs l).length + (3 - (fracOf m).length) = (Lib.decDigits (m / 1000)).length + 3 by omega] at e1
  rw [e1, V_take (dgt l) (digs l) hg _ (Nat.le_refl _), List.take_length, hD, val_append, val_map, val_map, decDigits_val, List.length_map, Nat.add_mul, f2, Nat.mul_assoc, ← Nat.pow_add, show (fracOf m).length + (3 - (fracOf m).length) = 3 by omega]
  omega

theorem text_dec (neg : Bool) (m : Nat) : isDec (textOf neg m) = true := by
  have hp := (text_parts neg m [] [] [] (Or.inl rfl) (fun c hc => by cases hc) (Or.inl rfl)).isDec
  rw [← textOf_app, List.append_nil] at hp
  exact hp
theorem text_num (neg : Bool) (m : Nat) (hm : m ≤ 1099511627776) : num (textOf neg m) = if neg then -(m : Int) else m := by
  have hp := text_parts neg m [] [] [] (Or.inl rfl) (fun c hc => by cases hc) (Or.inl rfl)
  have hv := (text_V neg m [] [] [] (Or.inl rfl) (fun c hc => by cases hc) (Or.inl rfl)).1
  have hx := hp.expo_nil
  have hs := hp.sign
  have h0 := hp.place0
  rw [← textOf_app, List.append_nil] at *
  unfold num mag
  rw [h0, hx, show (((Lib.decDigits (m / 1000)).length : Int) + 0 + 3).toNat = (Lib.decDigits (m / 1000)).length + 3 by omega, hv]
  rw [show min (m : Int) 1099511627776 = m by omega]
  cases neg
  · rw [if_neg (fun h => absurd (hs.1 h) (by decide))]; rfl
  · rw [if_pos (hs.2 rfl)]; rfl
end Fx
end Go.Proofs.YtahdecppngemeaaDoor
