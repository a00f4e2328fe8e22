/-
  Digits and their sums: plain words.
-/
import Derived.Test.YtgcmjkimiakibaaGreatDoorGad
import Derived.Test.YtgcmjkimiakibaaGreatDoorGae
import Derived.Test.YtgcmjkimiakibaaGreatDoorGaf
namespace Go.Proofs.YtgcmjkimiakibaaGreatDoor
open Go.RowKit

theorem sub_byte {c : UInt8} (h : 48 ≤ (c.toNat : Int)) : ((c.toNat : Int) - 48) = ((Fx.dv c : Nat) : Int) := by unfold Fx.dv; omega

namespace Fx
theorem V_succ (f : Nat → Nat) (n : Nat) : V f (n + 1) = V f n * 10 + f n := rfl
theorem V_le (f : Nat → Nat) {a b : Nat} (h : a ≤ b) : V f a ≤ V f b := by
  have := V_mono f a (b - a); rw [show a + (b - a) = b by omega] at this; exact this
theorem V_still (f : Nat → Nat) {a b : Nat} (h0 : V f a = 0) (hf : ∀ i, a ≤ i → f i = 0) (h : a ≤ b) : V f b = 0 := by
  have := V_zero f a h0 hf (b - a); rw [show a + (b - a) = b by omega] at this; exact this
end Fx
end Go.Proofs.YtgcmjkimiakibaaGreatDoor

/-
  Plain: digits of a number's text. No run of the program in this text.
-/
namespace Go.Proofs.YtgcmjkimiakibaaGreatDoor
open Go.RowKit

namespace Fx
/-- the digits so far -/
def Part (u v : Nat) (t : ByteArray) : Prop :=
  Lib.decDigits u = if t.size = 0 then Lib.decDigits v else if v = 0 then t.data.toList else Lib.decDigits v ++ t.data.toList
theorem part_next {u v : Nat} {t t' : ByteArray} {c : UInt8} (h : Part u v t) (hc : c = UInt8.ofNat (48 + v % 10)) (hgo : 0 < v ∨ t.size = 0) (ht : t'.data.toList = c :: t.data.toList) : Part u (v / 10) t' := by
  unfold Part at *
  have hs : t'.size = t.size + 1 := by
    have e1 : t'.data.toList.length = t'.size := by simp
    have e2 : t.data.toList.length = t.size := by simp
    rw [← e1, ht, List.length_cons, e2]
  rw [if_neg (by omega), ht]
  have hv : Lib.decDigits v = if v / 10 = 0 then [c] else Lib.decDigits (v / 10) ++ [c] := by
    rw [Lib.decDigits]
    by_cases h10 : v < 10
    · rw [dif_pos h10, if_pos (by omega), hc, Nat.mod_eq_of_lt h10]
    · rw [dif_neg h10, if_neg (by omega), hc]
  by_cases h0 : t.size = 0
  · have hn : t.data.toList = [] := by
      have e2 : t.data.toList.length = t.size := by simp
      rw [h0] at e2; exact List.length_eq_zero_iff.1 e2
    rw [if_pos h0] at h
    rw [h, hv, hn]
  · rw [if_neg h0, if_neg (by omega), hv] at h
    rw [h]
    split <;> simp
end Fx

namespace Fx
theorem part_end {u : Nat} {t : ByteArray} (h : Part u 0 t) (h0 : t.size ≠ 0) : t.data.toList = Lib.decDigits u := by
  unfold Part at h; rw [if_neg h0, if_pos rfl] at h; exact h.symm
def dg (n : Nat) : UInt8 := UInt8.ofNat (48 + n)
theorem dec4 {r : Nat} (h : r < 1000) : (Lib.decDigits (1000 + r)).drop 1 = [dg (r / 100), dg (r / 10 % 10), dg (r % 10)] := by
  unfold dg
  rw [Lib.decDigits, dif_neg (by omega), Lib.decDigits, dif_neg (by omega), Lib.decDigits, dif_neg (by omega), Lib.decDigits, dif_pos (by omega)]
  rw [show (1000 + r) / 10 / 10 % 10 = r / 100 by omega, show (1000 + r) / 10 % 10 = r / 10 % 10 by omega, show (1000 + r) % 10 = r % 10 by omega]
  rfl
theorem dg_nought {n : Nat} (h : n < 10) : (dg n == 48) = decide (n = 0) := by
  match n, h with
  | 0, _ => rfl
  | 1, _ => rfl
  | 2, _ => rfl
  | 3, _ => rfl
  | 4, _ => rfl
  | 5, _ => rfl
  | 6, _ => rfl
  | 7, _ => rfl
  | 8, _ => rfl
  | 9, _ => rfl
  | n + 10, h => omega
theorem frac_eq {r : Nat} (h : r < 1000) (h0 : ¬ r = 0) : frac r = [dg (r / 100)] ++ (if 0 < r % 100 then [dg (r / 10 % 10)] else []) ++ (if 0 < r % 10 then [dg (r % 10)] else []) := by
  unfold frac Lib.trimRightB
  rw [dec4 h]
  have n1 := dg_nought (n := r % 10) (by omega)
  have n2 := dg_nought (n := r / 10 % 10) (by omega)
  have n3 := dg_nought (n := r / 100) (by omega)
  by_cases c1 : r % 10 = 0
  · rw [decide_eq_true c1] at n1
    by_cases c2 : r / 10 % 10 = 0
    · rw [decide_eq_true c2] at n2
      rw [decide_eq_false (by omega)] at n3
      rw [if_neg (by omega), if_neg (by omega)]
      simp [n1, n2, n3]
    · rw [decide_eq_false c2] at n2
      rw [if_pos (by omega), if_neg (by omega)]
      simp [n1, n2]
  · rw [decide_eq_false c1] at n1
    rw [if_pos (by omega), if_pos (by omega)]
    simp [n1]
theorem dg_walk (n : Nat) : (48 + UInt8.ofNat n : UInt8) = dg n := by unfold dg; rw [UInt8.ofNat_add]; rfl
end Fx
end Go.Proofs.YtgcmjkimiakibaaGreatDoor

/-
  Plain mathematics: what is printed is a decimal, and which number it is, with an exponent behind it or without.
-/
namespace Go.Proofs.YtgcmjkimiakibaaGreatDoor
namespace Fx
theorem at_app (P R : List UInt8) (i : Nat) : at' (P ++ R) (P.length + i) = at' R i := by
  unfold at'
  rw [List.getD_eq_getElem?_getD, List.getD_eq_getElem?_getD, List.getElem?_append_right (by omega), show P.length + i - P.length = i by omega]
theorem at_app0 (P R : List UInt8) : at' (P ++ R) P.length = at' R 0 := at_app P R 0
theorem at_cons (c : UInt8) (R : List UInt8) : at' (c :: R) 0 = c := rfl
theorem at_nil : at' [] 0 = 0 := rfl
theorem dig_app (P A R : List UInt8) (hA : ∀ c ∈ A, isD c = true) (hR : isD (at' R 0) = false) : dig (P ++ (A ++ R)) P.length = P.length + A.length := by
  unfold dig
  rw [List.drop_left, List.takeWhile_append_of_pos hA]
  have : R.takeWhile isD = [] := by
    cases R with
    | nil => rfl
    | cons c R => rw [List.takeWhile_cons, show isD c = false from hR]; rfl
  rw [this, List.append_nil]
theorem seg_app (P A R : List UInt8) : seg (P ++ (A ++ R)) P.length (P.length + A.length) = A := by
  unfold seg
  rw [List.drop_left, show P.length + A.length - P.length = A.length by omega, List.take_left]

theorem at_of {l P R : List UInt8} {k : Nat} (hl : l = P ++ R) (hk : k = P.length) : at' l k = at' R 0 := by subst hl hk; exact at_app0 P R
theorem dig_of {l P A R : List UInt8} {k : Nat} (hl : l = P ++ (A ++ R)) (hk : k = P.length) (hA : ∀ c ∈ A, isD c = true) (hR : isD (at' R 0) = false) : dig l k = k + A.length := by
  subst hl hk; exact dig_app P A R hA hR
theorem seg_of {l P A R : List UInt8} {a b : Nat} (hl : l = P ++ (A ++ R)) (ha : a = P.length) (hb : b = P.length + A.length) : seg l a b = A := by
  subst hl ha hb; exact seg_app P A R

/-- the parts of a text that is a decimal -/
structure Parts (S W F E fr sg ds : List UInt8) : Prop where
  hS : S = [] ∨ S = [45]
  hW : ∀ c ∈ W, isD c = true
  hW0 : W ≠ []
  hF : (F = [] ∧ fr = []) ∨ (F = 46 :: fr ∧ fr ≠ [])
  hfr : ∀ c ∈ fr, isD c = true
  hE : E = [] ∨ (E = 101 :: (sg ++ ds) ∧ ds ≠ [])
  hds : ∀ c ∈ ds, isD c = true
  hsg : sg = [] ∨ sg = [43] ∨ sg = [45]

variable {S W F E fr sg ds : List UInt8}
theorem isD_head {A R : List UInt8} (h0 : A ≠ []) (h : ∀ c ∈ A, isD c = true) : isD (at' (A ++ R) 0) = true := by
  cases A with
  | nil => exact absurd rfl h0
  | cons c A => exact h c (by simp)
theorem isD_ne {c : UInt8} (h : isD c = true) : c ≠ 43 ∧ c ≠ 45 ∧ c ≠ 46 := by
  refine ⟨?_, ?_, ?_⟩ <;> (rintro rfl; exact absurd h (by decide))

theorem Parts.spS (h : Parts S W F E fr sg ds) : spS (S ++ (W ++ (F ++ E))) = S.length := by
  rcases h.hS with rfl | rfl
  · have hd := isD_head (R := F ++ E) h.hW0 h.hW
    have hn := isD_ne hd
    unfold Fx.spS sgn
    rw [List.nil_append, if_neg (by rintro (h | h); exact hn.1 h; exact hn.2.1 h)]; rfl
  · rfl
theorem Parts.headFE (h : Parts S W F E fr sg ds) : isD (at' (F ++ E) 0) = false := by
  rcases h.hF with ⟨rfl, _⟩ | ⟨rfl, _⟩
  · rcases h.hE with rfl | ⟨rfl, _⟩ <;> rfl
  · rfl
theorem Parts.headE (h : Parts S W F E fr sg ds) : isD (at' E 0) = false ∧ at' E 0 ≠ 46 := by
  rcases h.hE with rfl | ⟨rfl, _⟩
  · exact ⟨rfl, by decide⟩
  · exact ⟨rfl, by rw [at_cons]; decide⟩
theorem Parts.spW (h : Parts S W F E fr sg ds) : spW (S ++ (W ++ (F ++ E))) = S.length + W.length := by
  unfold Fx.spW
  rw [h.spS]
  exact dig_app S W (F ++ E) h.hW h.headFE
theorem Parts.spD (h : Parts S W F E fr sg ds) : spD (S ++ (W ++ (F ++ E))) = S.length + W.length + F.length := by
  unfold Fx.spD
  rw [h.spW]
  have e0 : at' (S ++ (W ++ (F ++ E))) (S.length + W.length) = at' (F ++ E) 0 := by
    rw [← List.append_assoc, ← List.length_append]; exact at_app0 _ _
  unfold spDof
  rw [e0]
  rcases h.hF with ⟨rfl, _⟩ | ⟨rfl, hf⟩
  · rw [if_neg (fun c => h.headE.2 c.1)]; rfl
  · have e1 : dig (S ++ (W ++ (46 :: fr ++ E))) (S.length + W.length + 1) = S.length + W.length + 1 + fr.length := by
      exact dig_of (P := S ++ W ++ [46]) (R := E) (by simp) (by simp only [List.length_append, List.length_cons, List.length_nil]; try omega) h.hfr h.headE.1
    have hp : 0 < fr.length := List.length_pos_iff.2 hf
    rw [e1, if_pos ⟨rfl, by omega⟩, List.length_cons]; omega
theorem Parts.fromE' (h : Parts S W F E fr sg ds) (hE : E = 101 :: (sg ++ ds)) (hd : ds ≠ []) : sgn (S ++ (W ++ (F ++ E))) (S.length + W.length + F.length + 1) = S.length + W.length + F.length + 1 + sg.length := by
  subst hE
  have e1 : at' (S ++ (W ++ (F ++ 101 :: (sg ++ ds)))) (S.length + W.length + F.length + 1) = at' (sg ++ ds) 0 := at_of (P := S ++ W ++ F ++ [101]) (by simp) (by simp only [List.length_append, List.length_cons, List.length_nil]; try omega)
  unfold sgn
  rw [e1]
  rcases h.hsg with rfl | rfl | rfl
  · have hn := isD_ne (isD_head (R := []) hd h.hds)
    rw [List.append_nil] at hn
    rw [List.nil_append, if_neg (by rintro (h | h); exact hn.1 h; exact hn.2.1 h)]; rfl
  · rfl
  · rfl
theorem Parts.expAt (_h : Parts S W F E fr sg ds) (hE : E = 101 :: (sg ++ ds)) : at' (S ++ (W ++ (F ++ E))) (S.length + W.length + F.length + 1) = at' (sg ++ ds) 0 := by
  subst hE
  exact at_of (P := S ++ W ++ F ++ [101]) (by simp) (by simp only [List.length_append, List.length_cons, List.length_nil]; try omega)
theorem Parts.digE (h : Parts S W F E fr sg ds) (hE : E = 101 :: (sg ++ ds)) : dig (S ++ (W ++ (F ++ E))) (S.length + W.length + F.length + 1 + sg.length) = S.length + W.length + F.length + 1 + sg.length + ds.length := by
  subst hE
  exact dig_of (P := S ++ W ++ F ++ [101] ++ sg) (R := []) (by simp) (by simp only [List.length_append, List.length_cons, List.length_nil]; try omega) h.hds (by decide)
theorem Parts.spE (h : Parts S W F E fr sg ds) : spE (S ++ (W ++ (F ++ E))) = (S ++ (W ++ (F ++ E))).length := by
  unfold Fx.spE
  rw [h.spD]
  have e0 : at' (S ++ (W ++ (F ++ E))) (S.length + W.length + F.length) = at' E 0 := at_of (P := S ++ W ++ F) (by simp) (by simp only [List.length_append])
  unfold spEof
  rw [e0]
  rcases h.hE with rfl | ⟨hE, hd⟩
  · rw [if_neg (by intro c; exact absurd c.1 (by decide))]
    simp; omega
  · have hp : 0 < ds.length := List.length_pos_iff.2 hd
    rw [h.fromE' hE hd, h.digE hE, if_pos ⟨Or.inl (by rw [hE]; rfl), by omega⟩, hE]
    simp; omega
theorem Parts.isDec (h : Parts S W F E fr sg ds) : isDec (S ++ (W ++ (F ++ E))) = true := by
  unfold Fx.isDec
  apply decide_eq_true
  have hp : 0 < W.length := List.length_pos_iff.2 h.hW0
  unfold len
  rw [h.spD, h.spS, if_neg (by omega), h.spE]
  refine ⟨?_, rfl⟩
  simp only [List.length_append]; omega
theorem Parts.digs (h : Parts S W F E fr sg ds) : digs (S ++ (W ++ (F ++ E))) = W.map dv ++ fr.map dv := by
  unfold Fx.digs
  rw [h.spS, h.spW, h.spD, seg_app]
  congr 2
  rcases h.hF with ⟨rfl, rfl⟩ | ⟨rfl, _⟩
  · unfold seg
    rw [List.length_nil, show S.length + W.length + 0 - (S.length + W.length + 1) = 0 by omega]; rfl
  · exact seg_of (P := S ++ W ++ [46]) (R := E) (by simp) (by simp only [List.length_append, List.length_cons, List.length_nil]; try omega) (by simp only [List.length_append, List.length_cons, List.length_nil]; try omega)
theorem Parts.place0 (h : Parts S W F E fr sg ds) : place0 (S ++ (W ++ (F ++ E))) = W.length := by
  unfold Fx.place0; rw [h.spS, h.spW]; omega
theorem Parts.expo_nil (h : Parts S W F [] fr sg ds) : expo (S ++ (W ++ (F ++ []))) = 0 := by
  unfold expo
  rw [if_pos]
  rw [h.spE, h.spD]; simp; omega
theorem Parts.expo_one (h : Parts S W F E fr sg ds) (hE : E = 101 :: (sg ++ ds)) (hd : ds ≠ []) (hl : ds.length ≤ 6) : expo (S ++ (W ++ (F ++ E))) = if sg = [45] then -(valFrom 0 ds : Int) else valFrom 0 ds := by
  have hp : 0 < ds.length := List.length_pos_iff.2 hd
  have hlen : (S ++ (W ++ (F ++ E))).length = S.length + W.length + F.length + 1 + sg.length + ds.length := by rw [hE]; simp; omega
  unfold expo expMag fromE
  have hne : ¬ S.length + W.length + F.length + 1 + sg.length + ds.length = S.length + W.length + F.length := by omega
  have hle : S.length + W.length + F.length + 1 + sg.length + ds.length - (S.length + W.length + F.length + 1 + sg.length) ≤ 6 := by omega
  rw [h.spE, h.spD, h.fromE' hE hd, h.expAt hE, hlen, if_neg hne, if_pos hle]
  have e : seg (S ++ (W ++ (F ++ E))) (S.length + W.length + F.length + 1 + sg.length) (S.length + W.length + F.length + 1 + sg.length + ds.length) = ds := by
    subst hE
    exact seg_of (P := S ++ W ++ F ++ [101] ++ sg) (R := []) (by simp) (by simp only [List.length_append, List.length_cons, List.length_nil]; try omega) (by simp only [List.length_append, List.length_cons, List.length_nil]; try omega)
  rw [e]
  rcases h.hsg with rfl | rfl | rfl
  · have hn := isD_ne (isD_head (R := []) hd h.hds)
    rw [List.append_nil] at hn
    rw [List.nil_append, if_neg hn.2.1, if_neg (by decide)]
  · rw [show at' ([43] ++ ds) 0 = 43 from rfl, if_neg (by decide), if_neg (by decide)]
  · rw [show at' ([45] ++ ds) 0 = 45 from rfl, if_pos rfl, if_pos rfl]
theorem Parts.sign (h : Parts S W F E fr sg ds) : at' (S ++ (W ++ (F ++ E))) 0 = 45 ↔ S = [45] := by
  rcases h.hS with rfl | rfl
  · have hn := isD_ne (isD_head (R := F ++ E) h.hW0 h.hW)
    rw [List.nil_append]
    exact ⟨fun e => absurd e hn.2.1, fun e => by cases e⟩
  · exact ⟨fun _ => rfl, fun _ => rfl⟩

/-- the number that digits make -/
def val (D : List Nat) : Nat := D.foldl (fun a d => a * 10 + d) 0
theorem val_from (D : List Nat) : ∀ a, D.foldl (fun a d => a * 10 + d) a = a * 10 ^ D.length + val D := by
  induction D with
  | nil => intro a; simp [val]
  | cons d D ih =>
    intro a
    unfold val
    rw [List.foldl_cons, List.foldl_cons, ih, ih (0 * 10 + d), List.length_cons, Nat.pow_succ, Nat.add_mul, show 0 * 10 + d = d by omega]
    have : a * 10 * 10 ^ D.length = a * (10 ^ D.length * 10) := by rw [Nat.mul_assoc, Nat.mul_comm 10]
    omega
theorem val_append (A B : List Nat) : val (A ++ B) = val A * 10 ^ B.length + val B := by
  unfold val; rw [List.foldl_append]; exact val_from B _
theorem val_map (l : List UInt8) : val (l.map dv) = valFrom 0 l := by
  unfold val valFrom; rw [List.foldl_map]
theorem V_take (f : Nat → Nat) (D : List Nat) (hf : ∀ i, D.getD i 0 = f i) : ∀ k, k ≤ D.length → V f k = val (D.take k) := by
  intro k
  induction k with
  | zero => intro _; rfl
  | succ k ih =>
    intro hk
    have e : D.take (k + 1) = D.take k ++ [f k] := by
      rw [List.take_succ_eq_append_getElem (by omega), ← hf k, List.getD_eq_getElem?_getD, List.getElem?_eq_getElem (by omega)]; rfl
    rw [V_succ, ih (by omega), e, val_append]
    simp [val]
theorem V_zeros (f : Nat → Nat) (n : Nat) (hf : ∀ i, n ≤ i → f i = 0) : ∀ j, V f (n + j) = V f n * 10 ^ j := by
  intro j
  induction j with
  | zero => simp
  | succ j ih =>
    rw [show n + (j + 1) = (n + j) + 1 by omega, V_succ, ih, hf _ (by omega), Nat.pow_succ, Nat.mul_assoc]; rfl
theorem V_div (f : Nat → Nat) (hf : ∀ i, f i ≤ 9) (n : Nat) : ∀ j, V f n = V f (n + j) / 10 ^ j := by
  intro j
  induction j with
  | zero => simp
  | succ j ih =>
    have := hf (n + j)
    rw [show n + (j + 1) = (n + j) + 1 by omega, V_succ, Nat.pow_succ, Nat.mul_comm (10 ^ j), ← Nat.div_div_eq_div_mul, show (V f (n + j) * 10 + f (n + j)) / 10 = V f (n + j) by omega]
    exact ih

theorem decDigits_isD (w : Nat) : ∀ c ∈ Lib.decDigits w, isD c = true := by
  induction w using Nat.strongRecOn with
  | _ w ih =>
    rw [Lib.decDigits]
    have hd : ∀ n, n < 10 → isD (UInt8.ofNat (48 + n)) = true := by decide
    by_cases h : w < 10
    · rw [dif_pos h]; intro c hc; rw [List.mem_singleton.1 hc]; exact hd w h
    · rw [dif_neg h]; intro c hc
      rcases List.mem_append.1 hc with hc | hc
      · exact ih (w / 10) (by omega) c hc
      · rw [List.mem_singleton.1 hc]; exact hd _ (by omega)
theorem decDigits_ne (w : Nat) : Lib.decDigits w ≠ [] := by
  have h1 := Lib.decDigits_length w
  have h2 := Lib.nDigits_pos w
  intro h; rw [h] at h1; simp at h1; omega
theorem dv_dg {n : Nat} (h : n < 10) : dv (dg n) = n := by
  unfold dv dg; rw [UInt8.toNat_ofNat']; omega
theorem isD_dg {n : Nat} (h : n < 10) : isD (dg n) = true := by
  unfold isD dg
  apply decide_eq_true
  rw [UInt8.toNat_ofNat']; omega
theorem decDigits_val (w : Nat) : valFrom 0 (Lib.decDigits w) = w := by
  induction w using Nat.strongRecOn with
  | _ w ih =>
    rw [Lib.decDigits]
    by_cases h : w < 10
    · rw [dif_pos h]
      show 0 * 10 + dv (dg w) = w
      rw [dv_dg h]; omega
    · rw [dif_neg h]
      unfold valFrom
      rw [List.foldl_append]
      show valFrom 0 (Lib.decDigits (w / 10)) * 10 + dv (dg (w % 10)) = w
      rw [ih (w / 10) (by omega), dv_dg (by omega)]; omega

/-- what the digits behind the point are -/
theorem frac_facts {r : Nat} (h : r < 1000) (h0 : ¬ r = 0) : frac r ≠ [] ∧ (∀ c ∈ frac r, isD c = true) ∧ (frac r).length ≤ 3 ∧ valFrom 0 (frac r) * 10 ^ (3 - (frac r).length) = r := by
  rw [frac_eq h h0]
  have d1 := isD_dg (n := r / 100) (by omega)
  have d2 := isD_dg (n := r / 10 % 10) (by omega)
  have d3 := isD_dg (n := r % 10) (by omega)
  have v1 := dv_dg (n := r / 100) (by omega)
  have v2 := dv_dg (n := r / 10 % 10) (by omega)
  have v3 := dv_dg (n := r % 10) (by omega)
  by_cases c1 : 0 < r % 100 <;> by_cases c0 : 0 < r % 10
  · rw [if_pos c1, if_pos c0]
    refine ⟨by simp, by simp [d1, d2, d3], by simp, ?_⟩
    simp [valFrom, v1, v2, v3]; omega
  · rw [if_pos c1, if_neg c0]
    refine ⟨by simp, by simp [d1, d2], by simp, ?_⟩
    simp [valFrom, v1, v2]; omega
  · omega
  · rw [if_neg c1, if_neg c0]
    refine ⟨by simp, by simp [d1], by simp, ?_⟩
    simp [valFrom, v1]; omega

/-- the text of a number, in parts -/
def fracOf (m : Nat) : List UInt8 := if m % 1000 = 0 then [] else frac (m % 1000)
theorem text_parts (neg : Bool) (m : Nat) (E sg ds : List UInt8) (hE : E = [] ∨ (E = 101 :: (sg ++ ds) ∧ ds ≠ [])) (hds : ∀ c ∈ ds, isD c = true) (hsg : sg = [] ∨ sg = [43] ∨ sg = [45]) :
    Parts (if neg then [45] else []) (Lib.decDigits (m / 1000)) (if m % 1000 = 0 then [] else 46 :: frac (m % 1000)) E (fracOf m) sg ds := by
  refine ⟨by cases neg <;> simp, decDigits_isD _, decDigits_ne _, ?_, ?_, hE, hds, hsg⟩
  · unfold fracOf
    by_cases h : m % 1000 = 0
    · rw [if_pos h, if_pos h]; exact Or.inl ⟨rfl, rfl⟩
    · rw [if_neg h, if_neg h]; exact Or.inr ⟨rfl, (frac_facts (by omega) h).1⟩
  · unfold fracOf
    by_cases h : m % 1000 = 0
    · rw [if_pos h]; intro c hc; cases hc
    · rw [if_neg h]; exact (frac_facts (by omega) h).2.1
theorem fracOf_val (m : Nat) : (fracOf m).length ≤ 3 ∧ valFrom 0 (fracOf m) * 10 ^ (3 - (fracOf m).length) = m % 1000 := by
  unfold fracOf
  by_cases h : m % 1000 = 0
  · rw [if_pos h, h]; exact ⟨by decide, rfl⟩
  · rw [if_neg h]; exact ⟨(frac_facts (by omega) h).2.2.1, (frac_facts (by omega) h).2.2.2⟩
theorem textOf_app (neg : Bool) (m : Nat) (E : List UInt8) : textOf neg m ++ E = (if neg then [45] else []) ++ (Lib.decDigits (m / 1000) ++ ((if m % 1000 = 0 then [] else 46 :: frac (m % 1000)) ++ E)) := by
  unfold textOf; simp [List.append_assoc]

/-- all thousandths of a text, whatever exponent stands behind it -/
theorem text_V (neg : Bool) (m : Nat) (E sg ds : List UInt8) (hE : E = [] ∨ (E = 101 :: (sg ++ ds) ∧ ds ≠ [])) (hds : ∀ c ∈ ds, isD c = true) (hsg : sg = [] ∨ sg = [43] ∨ sg = [45]) :
    V (dgt (textOf neg m ++ E)) ((Lib.decDigits (m / 1000)).length + 3) = m ∧ (∀ i, (Lib.decDigits (m / 1000)).length + 3 ≤ i → dgt (textOf neg m ++ E) i = 0) := by
  have hp := text_parts neg m E sg ds hE hds hsg
  have hD := hp.digs
  obtain ⟨f1, f2⟩ := fracOf_val m
  rw [textOf_app]
  have hg := digs_get ((if neg then [45] else []) ++ (Lib.decDigits (m / 1000) ++ ((if m % 1000 = 0 then [] else 46 :: frac (m % 1000)) ++ E)))
  generalize hll : (if neg then [45] else []) ++ (Lib.decDigits (m / 1000) ++ ((if m % 1000 = 0 then [] else 46 :: frac (m % 1000)) ++ E)) = l at *
  have hlen : (digs l).length = (Lib.decDigits (m / 1000)).length + (fracOf m).length := by rw [hD]; simp
  have hz : ∀ i, (digs l).length ≤ i → dgt l i = 0 := fun i hi => by
    rw [← hg i, List.getD_eq_getElem?_getD, List.getElem?_eq_none hi]; rfl
  refine ⟨?_, fun i hi => hz i (by omega)⟩
  have e1 := V_zeros (dgt l) (digs l).length hz (3 - (fracOf m).length)
  rw [show (digs l).length + (3 - (fracOf m).length) = (Lib.decDigits (m / 1000)).length + 3 by omega] at e1
  rw [e1, V_take (dgt l) (digs l) hg _ (Nat.le_refl _), List.take_length, hD, val_append, val_map, val_map, decDigits_val, List.length_map, Nat.add_mul, f2, Nat.mul_assoc, ← Nat.pow_add, show (fracOf m).length + (3 - (fracOf m).length) = 3 by omega]
  omega

theorem text_dec (neg : Bool) (m : Nat) : isDec (textOf neg m) = true := by
  have hp := (text_parts neg m [] [] [] (Or.inl rfl) (fun c hc => by cases hc) (Or.inl rfl)).isDec
  rw [← textOf_app, List.append_nil] at hp
  exact hp
theorem text_num (neg : Bool) (m : Nat) (hm : m ≤ 1099511627776) : num (textOf neg m) = if neg then -(m : Int) else m := by
  have hp := text_parts neg m [] [] [] (Or.inl rfl) (fun c hc => by cases hc) (Or.inl rfl)
  have hv := (text_V neg m [] [] [] (Or.inl rfl) (fun c hc => by cases hc) (Or.inl rfl)).1
  have hx := hp.expo_nil
  have hs := hp.sign
  have h0 := hp.place0
  rw [← textOf_app, List.append_nil] at *
  unfold num mag
  rw [h0, hx, show (((Lib.decDigits (m / 1000)).length : Int) + 0 + 3).toNat = (Lib.decDigits (m / 1000)).length + 3 by omega, hv]
  rw [show min (m : Int) 1099511627776 = m by omega]
  cases neg
  · rw [if_neg (fun h => absurd (hs.1 h) (by decide))]; rfl
  · rw [if_pos (hs.2 rfl)]; rfl
end Fx
end Go.Proofs.YtgcmjkimiakibaaGreatDoor

/-
  Plain: a number's text where others stand behind it. No run of the program in this text.
-/
namespace Go.Proofs.YtgcmjkimiakibaaGreatDoor
namespace Fx
/-- how far a decimal goes, where no decimal goes on with what stands behind it -/
theorem len_of_parts {S W F fr R : List UInt8} (hp : Parts S W F [] fr [] []) (h1 : isD (at' R 0) = false) (h2 : at' R 0 ≠ 46) (h3 : at' R 0 ≠ 101) (h4 : at' R 0 ≠ 69) :
    len (S ++ (W ++ (F ++ R))) = S.length + W.length + F.length := by
  have eS : spS (S ++ (W ++ (F ++ R))) = S.length := by
    rcases hp.hS with rfl | rfl
    · have hd := isD_head (R := F ++ R) hp.hW0 hp.hW
      have hn := isD_ne hd
      unfold spS sgn
      rw [List.nil_append, if_neg (by rintro (h | h); exact hn.1 h; exact hn.2.1 h)]; rfl
    · rfl
  have hFR : isD (at' (F ++ R) 0) = false := by
    rcases hp.hF with ⟨rfl, _⟩ | ⟨rfl, _⟩
    · exact h1
    · rfl
  have eW : spW (S ++ (W ++ (F ++ R))) = S.length + W.length := by
    unfold spW
    rw [eS]
    exact dig_app S W (F ++ R) hp.hW hFR
  have eP : S ++ (W ++ (F ++ R)) = (S ++ W) ++ (F ++ R) := by simp
  have eD : spD (S ++ (W ++ (F ++ R))) = S.length + W.length + F.length := by
    unfold spD
    rw [eW]
    unfold spDof
    rcases hp.hF with ⟨rfl, _⟩ | ⟨rfl, hf⟩
    · have ha : at' (S ++ (W ++ ([] ++ R))) (S.length + W.length) = at' R 0 := at_of eP (by simp)
      rw [if_neg (fun h => h2 (by rw [← ha]; exact h.1))]
      simp
    · have ha : at' (S ++ (W ++ (46 :: fr ++ R))) (S.length + W.length) = 46 := at_of eP (by simp)
      have hd : dig (S ++ (W ++ (46 :: fr ++ R))) (S.length + W.length + 1) = S.length + W.length + 1 + fr.length := dig_of (P := S ++ W ++ [46]) (A := fr) (R := R) (by simp) (by simp; omega) hp.hfr h1
      have hpos : 0 < fr.length := List.length_pos_iff.2 hf
      rw [if_pos ⟨ha, by rw [hd]; omega⟩, hd]
      simp; omega
  have hE : at' (S ++ (W ++ (F ++ R))) (S.length + W.length + F.length) = at' R 0 := at_of (P := S ++ W ++ F) (by simp) (by simp; omega)
  have eE : spE (S ++ (W ++ (F ++ R))) = S.length + W.length + F.length := by
    unfold spE
    rw [eD]
    unfold spEof
    rw [hE, if_neg (by rintro ⟨h | h, _⟩; exact h3 h; exact h4 h)]
  have hW : 0 < W.length := List.length_pos_iff.2 hp.hW0
  unfold len
  rw [eD, eS, if_neg (by omega), eE]
theorem len_text {n : Int} {R : List UInt8} (h1 : isD (at' R 0) = false) (h2 : at' R 0 ≠ 46) (h3 : at' R 0 ≠ 101) (h4 : at' R 0 ≠ 69) : len (text n ++ R) = (text n).length := by
  have hp := text_parts (decide (stop n < 0)) (stop n).natAbs [] [] [] (Or.inl rfl) (fun c hc => by cases hc) (Or.inl rfl)
  have h := len_of_parts hp (R := R) h1 h2 h3 h4
  unfold text
  rw [textOf_app, h]
  unfold textOf
  simp
  omega
theorem text_num' (n : Int) : num (text n) = stop n ∧ isDec (text n) = true := by
  have h1 := stop_lo n
  have h2 := stop_hi n
  refine ⟨?_, text_dec _ _⟩
  have hn := text_num (decide (stop n < 0)) (stop n).natAbs (by omega)
  unfold text
  rw [hn]
  by_cases h : stop n < 0
  · rw [if_pos (decide_eq_true h)]; omega
  · rw [if_neg (by simp [h])]; omega
/-- a number's text begins with a - or a digit, and has digits, a - and a point -/
theorem text_chr (n : Int) : ∀ b ∈ text n, b = 45 ∨ b = 46 ∨ isD b = true := by
  intro b hb
  unfold text textOf at hb
  rcases List.mem_append.1 hb with hb | hb
  · rcases List.mem_append.1 hb with hb | hb
    · split at hb
      · rw [List.mem_singleton] at hb; exact .inl hb
      · cases hb
    · exact .inr (.inr (decDigits_isD _ b hb))
  · split at hb
    · cases hb
    · rename_i h0
      rcases List.mem_cons.1 hb with rfl | hb
      · exact .inr (.inl rfl)
      · exact .inr (.inr ((frac_facts (by omega) h0).2.1 b hb))
theorem text_ne (n : Int) : text n ≠ [] := by
  unfold text textOf
  intro h
  exact decDigits_ne _ (List.append_eq_nil_iff.1 (List.append_eq_nil_iff.1 h).1).2
theorem len_sign {M : List UInt8} (h0 : at' M 0 = 43 ∨ at' M 0 = 45) (h1 : isD (at' M 1) = false) (h2 : at' M 1 ≠ 46) : len M = 0 := by
  have eS : spS M = 1 := by unfold spS sgn; rw [if_pos h0]
  have eW : spW M = 1 := by unfold spW; rw [eS]; exact dig_no M 1 h1
  have eD : spD M = 1 := by unfold spD; rw [eW]; unfold spDof; rw [if_neg (fun h => h2 h.1)]
  unfold len
  rw [if_pos (by rw [eD, eS])]
theorem len_dot {M : List UInt8} (h0 : at' M 0 = 46) (h1 : isD (at' M 1) = false) : len M = 0 := by
  have eS : spS M = 0 := by unfold spS sgn; rw [h0, if_neg (by decide)]
  have eW : spW M = 0 := by unfold spW; rw [eS]; exact dig_no M 0 (by rw [h0]; decide)
  have eD : spD M = 0 := by
    unfold spD; rw [eW]; unfold spDof
    rw [dig_no M (0 + 1) h1, if_neg (fun h => absurd h.2 (by omega))]
  unfold len
  rw [if_pos (by rw [eD, eS])]
end Fx
namespace Pr
open Ru Tk

/-- a number's text, in characters -/
def nC (n : Int) : List Int := (Fx.text n).map fun b => (b.toNat : Int)
theorem nC_ne (n : Int) : nC n ≠ [] := by unfold nC; simp [Fx.text_ne n]
theorem nC_chr (n : Int) : ∀ c ∈ nC n, c = 45 ∨ c = 46 ∨ (48 ≤ c ∧ c ≤ 57) := by
  intro c hc
  unfold nC at hc
  obtain ⟨b, hb, rfl⟩ := List.mem_map.1 hc
  rcases Fx.text_chr n b hb with rfl | rfl | h
  · exact .inl rfl
  · exact .inr (.inl rfl)
  · unfold Fx.isD at h
    have := of_decide_eq_true h
    exact .inr (.inr this)
theorem nC_p8 (n : Int) : (nC n).map p8 = Fx.text n := by
  have h : ∀ b ∈ Fx.text n, (p8 ∘ fun b : UInt8 => (b.toNat : Int)) b = b := fun b hb => by
    have hlt : b.toNat < 128 := by
      rcases Fx.text_chr n b hb with rfl | rfl | h
      · decide
      · decide
      · unfold Fx.isD at h
        have := of_decide_eq_true h
        omega
    simp only [Function.comp]
    rw [p8_lt (by omega)]
    unfold u8
    apply UInt8.toNat_inj.1
    rw [UInt8.toNat_ofNat']
    omega
  unfold nC
  rw [List.map_map, List.map_congr_left h]
  simp
/-- the plain bytes from a place on -/
def pb (L : List Int) (k : Nat) : List UInt8 := (L.map p8).drop k
theorem pb_at {L : List Int} {k i : Nat} : Fx.at' (pb L k) i = if k + i < L.length then p8 (at' L (k + i)) else 0 := by
  unfold pb Fx.at'
  rw [List.getD_eq_getElem?_getD, List.getElem?_drop, List.getElem?_map]
  split
  · rename_i h
    rw [List.getElem?_eq_getElem h, at_in h, g_eq h]; rfl
  · rename_i h
    rw [List.getElem?_eq_none (by omega)]; rfl
theorem p8_ne {c : Int} {b : UInt8} (hb : b.toNat < 128) (hc : 0 ≤ c) (h : c ≠ (b.toNat : Int)) : p8 c ≠ b := by
  intro e
  by_cases h1 : c < 128
  · rw [p8_lt h1] at e
    have := congrArg UInt8.toNat e
    unfold u8 at this
    rw [UInt8.toNat_ofNat'] at this
    omega
  · rw [p8_ge h1] at e
    rw [← e] at hb
    revert hb; decide
theorem p8_eq {c : Int} {b : UInt8} (hb : b.toNat < 128) (h : c = (b.toNat : Int)) : p8 c = b := by
  subst h
  rw [p8_lt (by omega)]
  unfold u8
  apply UInt8.toNat_inj.1
  rw [UInt8.toNat_ofNat']
  omega
theorem p8_isD {c : Int} (hc : 0 ≤ c) (h : ¬ (48 ≤ c ∧ c ≤ 57)) : Fx.isD (p8 c) = false := by
  by_cases h1 : c < 128
  · rw [p8_lt h1]
    unfold Fx.isD u8
    apply decide_eq_false
    rw [UInt8.toNat_ofNat']
    omega
  · rw [p8_ge h1]; decide
/-- no digit, as a byte there -/
theorem pb_isD {L : List Int} {k i : Nat} (hN : ∀ c ∈ L, 0 ≤ c) (h : ¬ (48 ≤ at' L (k + i) ∧ at' L (k + i) ≤ 57)) : Fx.isD (Fx.at' (pb L k) i) = false := by
  rw [pb_at]
  split
  · rename_i hlt
    exact p8_isD (at_neg hN hlt) h
  · rfl
theorem pb_ne {L : List Int} {k i : Nat} {b : UInt8} (hN : ∀ c ∈ L, 0 ≤ c) (hb : b.toNat < 128) (h0 : b ≠ 0) (h : at' L (k + i) ≠ (b.toNat : Int)) : Fx.at' (pb L k) i ≠ b := by
  rw [pb_at]
  split
  · rename_i hlt
    exact p8_ne hb (at_neg hN hlt) h
  · exact fun e => h0 e.symm
theorem pb_eq {L : List Int} {k i : Nat} {b : UInt8} (hb : b.toNat < 128) (h : at' L (k + i) = (b.toNat : Int)) : Fx.at' (pb L k) i = b := by
  rw [pb_at]
  have hlt : k + i < L.length := at_lt (by rw [h]; omega)
  rw [if_pos hlt]
  exact p8_eq hb h
theorem nlen_pb (L : List Int) (k : Nat) : nlen L k = Fx.len (pb L k) := (plain_len L k).symm
/-- a sign, or a point, that begins no number -/
theorem nlen_none {L : List Int} {k : Nat} (hN : ∀ c ∈ L, 0 ≤ c) (h1 : ¬ (48 ≤ at' L (k + 1) ∧ at' L (k + 1) ≤ 57)) (h2 : at' L (k + 1) ≠ 46) (h0 : ¬ (48 ≤ at' L k ∧ at' L k ≤ 57)) : numB (at' L k) = true → nlen L k = 0 := by
  intro hn
  rw [nlen_pb]
  unfold numB at hn
  have hn := of_decide_eq_true hn
  have e1 := pb_isD (i := 1) hN h1
  have e2 := pb_ne (i := 1) (b := 46) hN (by decide) (by decide) h2
  rcases (show at' L k = 43 ∨ at' L k = 45 ∨ at' L k = 46 by omega) with h | h | h
  · exact Fx.len_sign (.inl (pb_eq (i := 0) (b := 43) (by decide) h)) e1 e2
  · exact Fx.len_sign (.inr (pb_eq (i := 0) (b := 45) (by decide) h)) e1 e2
  · exact Fx.len_dot (pb_eq (i := 0) (b := 46) (by decide) h) e1
/-- a number's text that is read -/
theorem num_read {n : Int} {pre post : List Int} (hN : ∀ c ∈ pre ++ (nC n ++ post), 0 ≤ c) (h1 : ¬ (48 ≤ at' post 0 ∧ at' post 0 ≤ 57)) (h2 : at' post 0 ≠ 46) (h3 : at' post 0 ≠ 101) (h4 : at' post 0 ≠ 69) :
    nlen (pre ++ (nC n ++ post)) pre.length = (nC n).length ∧ nval (pre ++ (nC n ++ post)) pre.length = Fx.stop n ∧ numB (g (pre ++ (nC n ++ post)) pre.length) = true ∧ 0 < nlen (pre ++ (nC n ++ post)) pre.length := by
  have hpost : ∀ c ∈ post, 0 ≤ c := fun c hc => hN c (by simp [hc])
  have e : pb (pre ++ (nC n ++ post)) pre.length = Fx.text n ++ post.map p8 := by
    unfold pb
    rw [List.map_append, List.map_append, nC_p8]
    have : pre.length = (pre.map p8).length := by simp
    rw [this, List.drop_left]
  have hz : ∀ b : UInt8, b.toNat < 128 → b ≠ 0 → at' post 0 ≠ (b.toNat : Int) → Fx.at' (post.map p8) 0 ≠ b := fun b hb h0 h => by
    have := pb_ne (L := post) (k := 0) (i := 0) hpost hb h0 h
    unfold pb at this
    rwa [List.drop_zero] at this
  have hd : Fx.isD (Fx.at' (post.map p8) 0) = false := by
    have := pb_isD (L := post) (k := 0) (i := 0) hpost h1
    unfold pb at this
    rwa [List.drop_zero] at this
  have hl : nlen (pre ++ (nC n ++ post)) pre.length = (nC n).length := by
    rw [nlen_pb, e, Fx.len_text hd (hz 46 (by decide) (by decide) h2) (hz 101 (by decide) (by decide) h3) (hz 69 (by decide) (by decide) h4)]
    unfold nC; simp
  have hpos : 0 < (nC n).length := List.length_pos_iff.2 (nC_ne n)
  refine ⟨hl, ?_, ?_, by omega⟩
  · rw [← plain_val, hl]
    show pv ((pb (pre ++ (nC n ++ post)) pre.length).take (nC n).length) = _
    rw [e]
    have : (nC n).length = (Fx.text n).length := by unfold nC; simp
    rw [this, List.take_left]
    unfold pv
    rw [if_pos (Fx.text_num' n).2, (Fx.text_num' n).1]
  · exact (nlen_num (by rw [hl]; exact hpos)).2
end Pr
end Go.Proofs.YtgcmjkimiakibaaGreatDoor
