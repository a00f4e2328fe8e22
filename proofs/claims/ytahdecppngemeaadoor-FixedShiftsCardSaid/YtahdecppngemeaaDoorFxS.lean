/-
  The walk of the statement FixedShifts.
-/
import Derived.Test.YtahdecppngemeaaDoorFxZ
import Derived.Deep.RegionWith
import Derived.Handy
namespace Go.Proofs.YtahdecppngemeaaDoor
open Go.RowKit

namespace Fx
theorem shift_up (neg : Bool) (m e : Nat) (E sg ds : List UInt8) (hE : E = 101 :: (sg ++ ds)) (hd : ds ≠ []) (hds : ∀ c ∈ ds, isD c = true) (hsg : sg = [] ∨ sg = [43]) (hl : ds.length ≤ 6) (he : valFrom 0 ds = e) :
    num (textOf neg m ++ E) = if neg then -(min ((m * 10 ^ e : Nat) : Int) 1099511627776) else min ((m * 10 ^ e : Nat) : Int) 1099511627776 := by
  have hsg' : sg = [] ∨ sg = [43] ∨ sg = [45] := hsg.elim Or.inl (fun h => Or.inr (Or.inl h))
  have hp := text_parts neg m E sg ds (Or.inr ⟨hE, hd⟩) hds hsg'
  obtain ⟨hv, hz⟩ := text_V neg m E sg ds (Or.inr ⟨hE, hd⟩) hds hsg'
  have hx := hp.expo_one hE hd hl
  have hne : ¬ sg = [45] := by intro h; rcases hsg with h' | h' <;> (rw [h'] at h; cases h)
  have hs := hp.sign
  have h0 := hp.place0
  rw [← textOf_app] at hx hs h0
  rw [if_neg hne, he] at hx
  unfold num mag
  rw [h0, hx, show (((Lib.decDigits (m / 1000)).length : Int) + (e : Int) + 3).toNat = (Lib.decDigits (m / 1000)).length + 3 + e by omega, V_zeros _ _ hz, hv]
  cases neg
  · rw [if_neg (fun h => absurd (hs.1 h) (by decide))]; rfl
  · rw [if_pos (hs.2 rfl)]; rfl
theorem shift_down (neg : Bool) (m j : Nat) (hm : m ≤ 1099511627776) (hj : j ≤ 3) (E ds : List UInt8) (hE : E = 101 :: ([45] ++ ds)) (hd : ds ≠ []) (hds : ∀ c ∈ ds, isD c = true) (hl : ds.length ≤ 6) (he : valFrom 0 ds = j) :
    num (textOf neg m ++ E) = if neg then -((m / 10 ^ j : Nat) : Int) else ((m / 10 ^ j : Nat) : Int) := by
  have hsg' : ([45] : List UInt8) = [] ∨ ([45] : List UInt8) = [43] ∨ ([45] : List UInt8) = [45] := Or.inr (Or.inr rfl)
  have hp := text_parts neg m E [45] ds (Or.inr ⟨hE, hd⟩) hds hsg'
  obtain ⟨hv, hz⟩ := text_V neg m E [45] ds (Or.inr ⟨hE, hd⟩) hds hsg'
  have hx := hp.expo_one hE hd hl
  have hs := hp.sign
  have h0 := hp.place0
  rw [← textOf_app] at hx hs h0
  rw [if_pos rfl, he] at hx
  have hdiv := V_div (dgt (textOf neg m ++ E)) (dgt_le _) ((Lib.decDigits (m / 1000)).length + 3 - j) j
  rw [show (Lib.decDigits (m / 1000)).length + 3 - j + j = (Lib.decDigits (m / 1000)).length + 3 by omega, hv] at hdiv
  unfold num mag
  rw [h0, hx, show (((Lib.decDigits (m / 1000)).length : Int) + -(j : Int) + 3).toNat = (Lib.decDigits (m / 1000)).length + 3 - j by omega, hdiv]
  have hle : m / 10 ^ j ≤ m := Nat.div_le_self _ _
  rw [show min ((m / 10 ^ j : Nat) : Int) 1099511627776 = ((m / 10 ^ j : Nat) : Int) by omega]
  cases neg
  · rw [if_neg (fun h => absurd (hs.1 h) (by decide))]; rfl
  · rw [if_pos (hs.2 rfl)]; rfl
theorem shift_dec (neg : Bool) (m : Nat) (E sg ds : List UInt8) (hE : E = 101 :: (sg ++ ds)) (hd : ds ≠ []) (hds : ∀ c ∈ ds, isD c = true) (hsg : sg = [] ∨ sg = [43] ∨ sg = [45]) : isDec (textOf neg m ++ E) = true := by
  rw [textOf_app]; exact (text_parts neg m E sg ds (Or.inr ⟨hE, hd⟩) hds hsg).isDec
/-- a tenth, dropped towards nothing -/
def down (n : Int) (j : Nat) : Int := if n < 0 then -(((n.natAbs / 10 ^ j : Nat)) : Int) else ((n.natAbs / 10 ^ j : Nat) : Int)
end Fx

/-- what an exponent stands for -/
structure Shift (x : Int) (E : List UInt8) (want : Int → Int) : Prop where
  num : ∀ n : Int, -1073741824 ≤ n → n ≤ 1073741824 → Fx.num (Fx.text n ++ E) = Fx.stop (want n)
  dec : ∀ n : Int, Fx.isDec (Fx.text n ++ E) = true
  len : E.length ≤ 3

theorem up_is (n : Int) (e : Nat) (h1 : -1073741824 ≤ n) (h2 : n ≤ 1073741824) (r : Int)
    (h : r = if decide (Fx.stop n < 0) = true then -(min (((Fx.stop n).natAbs * 10 ^ e : Nat) : Int) 1099511627776) else min (((Fx.stop n).natAbs * 10 ^ e : Nat) : Int) 1099511627776) (he : e ≤ 3) : r = Fx.stop (n * 10 ^ e) := by
  rw [Fx.stop_id (n := n) (by omega) (by omega)] at h
  unfold Fx.stop
  obtain rfl | rfl | rfl | rfl : e = 0 ∨ e = 1 ∨ e = 2 ∨ e = 3 := by omega
  all_goals
    by_cases hn : n < 0
    · rw [if_pos (decide_eq_true hn)] at h; omega
    · rw [if_neg (by simp [hn])] at h; omega

theorem shift_3 : Shift 3 [101, 51] (fun n => n * 10 ^ 3) := ⟨fun n h1 h2 => up_is n 3 h1 h2 _ (Fx.shift_up _ _ 3 _ [] [51] rfl (by decide) (by decide) (Or.inl rfl) (by decide) rfl) (by decide), fun n => Fx.shift_dec _ _ _ [] [51] rfl (by decide) (by decide) (Or.inl rfl), by decide⟩
theorem shift_2 : Shift 2 [101, 50] (fun n => n * 10 ^ 2) := ⟨fun n h1 h2 => up_is n 2 h1 h2 _ (Fx.shift_up _ _ 2 _ [] [50] rfl (by decide) (by decide) (Or.inl rfl) (by decide) rfl) (by decide), fun n => Fx.shift_dec _ _ _ [] [50] rfl (by decide) (by decide) (Or.inl rfl), by decide⟩
theorem shift_1 : Shift 1 [101, 43, 49] (fun n => n * 10 ^ 1) := ⟨fun n h1 h2 => up_is n 1 h1 h2 _ (Fx.shift_up _ _ 1 _ [43] [49] rfl (by decide) (by decide) (Or.inr rfl) (by decide) rfl) (by decide), fun n => Fx.shift_dec _ _ _ [43] [49] rfl (by decide) (by decide) (Or.inr (Or.inl rfl)), by decide⟩
theorem shift_0 : Shift 0 [101, 48] (fun n => n * 10 ^ 0) := ⟨fun n h1 h2 => up_is n 0 h1 h2 _ (Fx.shift_up _ _ 0 _ [] [48] rfl (by decide) (by decide) (Or.inl rfl) (by decide) rfl) (by decide), fun n => Fx.shift_dec _ _ _ [] [48] rfl (by decide) (by decide) (Or.inl rfl), by decide⟩
theorem down_is (n : Int) (j : Nat) (h1 : -1073741824 ≤ n) (h2 : n ≤ 1073741824) (r : Int)
    (h : r = if decide (Fx.stop n < 0) = true then -(((Fx.stop n).natAbs / 10 ^ j : Nat) : Int) else (((Fx.stop n).natAbs / 10 ^ j : Nat) : Int)) : r = Fx.stop (Fx.down n j) := by
  rw [Fx.stop_id (n := n) (by omega) (by omega)] at h
  have hle : n.natAbs / 10 ^ j ≤ n.natAbs := Nat.div_le_self _ _
  unfold Fx.stop Fx.down
  generalize n.natAbs / 10 ^ j = q at *
  by_cases hn : n < 0
  · rw [if_pos (decide_eq_true hn)] at h; rw [if_pos hn]; omega
  · rw [if_neg (by simp [hn])] at h; rw [if_neg hn]; omega
theorem abs_le {n : Int} (h1 : -1073741824 ≤ n) (h2 : n ≤ 1073741824) : (Fx.stop n).natAbs ≤ 1099511627776 := by rw [Fx.stop_id (n := n) (by omega) (by omega)]; omega
theorem shift_m1 : Shift (-1) [101, 45, 49] (fun n => Fx.down n 1) := ⟨fun n h1 h2 => down_is n 1 h1 h2 _ (Fx.shift_down _ _ 1 (abs_le h1 h2) (by decide) _ [49] rfl (by decide) (by decide) (by decide) rfl), fun n => Fx.shift_dec _ _ _ [45] [49] rfl (by decide) (by decide) (Or.inr (Or.inr rfl)), by decide⟩
theorem shift_m2 : Shift (-2) [101, 45, 50] (fun n => Fx.down n 2) := ⟨fun n h1 h2 => down_is n 2 h1 h2 _ (Fx.shift_down _ _ 2 (abs_le h1 h2) (by decide) _ [50] rfl (by decide) (by decide) (by decide) rfl), fun n => Fx.shift_dec _ _ _ [45] [50] rfl (by decide) (by decide) (Or.inr (Or.inr rfl)), by decide⟩
theorem shift_m3 : Shift (-3) [101, 45, 51] (fun n => Fx.down n 3) := ⟨fun n h1 h2 => down_is n 3 h1 h2 _ (Fx.shift_down _ _ 3 (abs_le h1 h2) (by decide) _ [51] rfl (by decide) (by decide) (by decide) rfl), fun n => Fx.shift_dec _ _ _ [45] [51] rfl (by decide) (by decide) (Or.inr (Or.inr rfl)), by decide⟩

theorem bcell {W w1 : World} (hb : Below W.heap.size W w1) : (∀ b o, b < W.heap.size → w1.cell? ⟨b, o, none⟩ = W.cell? ⟨b, o, none⟩) ∧ (∀ b o, b < W.heap.size → w1.frozen? ⟨b, o, none⟩ = W.frozen? ⟨b, o, none⟩) :=
  ⟨fun b o h => hb.cell (p := ⟨b, o, none⟩) h, fun b o h => hb.frozen (p := ⟨b, o, none⟩) h⟩


theorem size2 (c d : UInt8) : (⟨#[c, d]⟩ : ByteArray).size = 2 := rfl
theorem tdiv_up (m : Nat) : ((m : Int)).tdiv 10 = ((m / 10 : Nat) : Int) := rfl
theorem tdiv_less (m : Nat) : (-(m : Int)).tdiv 10 = -((m / 10 : Nat) : Int) := by rw [Int.neg_tdiv]; rfl
theorem down_1 (n : Int) : n.tdiv 10 = Fx.down n 1 := by
  unfold Fx.down
  by_cases h : n < 0
  · rw [if_pos h]
    obtain ⟨m, rfl⟩ : ∃ m : Nat, n = -(m : Int) := ⟨n.natAbs, by omega⟩
    rw [tdiv_less, Int.natAbs_neg, Int.natAbs_natCast]
  · rw [if_neg h]
    obtain ⟨m, rfl⟩ : ∃ m : Nat, n = (m : Int) := ⟨n.natAbs, by omega⟩
    rw [tdiv_up, Int.natAbs_natCast]
theorem down_next (n : Int) (j : Nat) : (Fx.down n j).tdiv 10 = Fx.down n (j + 1) := by
  unfold Fx.down
  by_cases h : n < 0
  · rw [if_pos h, if_pos h, tdiv_less, Nat.div_div_eq_div_mul, ← Nat.pow_succ]
  · rw [if_neg h, if_neg h, tdiv_up, Nat.div_div_eq_div_mul, ← Nat.pow_succ]
theorem down_bd (n : Int) (j : Nat) (h1 : -1073741824 ≤ n) (h2 : n ≤ 1073741824) : -1073741824 ≤ Fx.down n j ∧ Fx.down n j ≤ 1073741824 := by
  have hle : n.natAbs / 10 ^ j ≤ n.natAbs := Nat.div_le_self _ _
  unfold Fx.down
  generalize n.natAbs / 10 ^ j = q at *
  split <;> omega
theorem wrap_small {n : Int} (h1 : -1073741824 ≤ n) (h2 : n ≤ 1073741824) : wrap64 n = n := IntWalk.wrap64_in n ⟨by omega, by omega⟩
theorem want_m1 (n : Int) (_h1 : -1073741824 ≤ n) (_h2 : n ≤ 1073741824) : Fx.down n 1 = n.tdiv 10 := (down_1 n).symm
theorem want_m2 (n : Int) (h1 : -1073741824 ≤ n) (h2 : n ≤ 1073741824) : Fx.down n 2 = wrap64 ((n.tdiv 10).tdiv 10) := by
  have := down_bd n 2 h1 h2
  rw [down_1 n, down_next, wrap_small this.1 this.2]
theorem want_m3 (n : Int) (h1 : -1073741824 ≤ n) (h2 : n ≤ 1073741824) : Fx.down n 3 = wrap64 ((wrap64 ((n.tdiv 10).tdiv 10)).tdiv 10) := by
  have := down_bd n 3 h1 h2
  rw [← want_m2 n h1 h2, down_next, wrap_small this.1 this.2]
theorem want_0 (n : Int) (_h1 : -1073741824 ≤ n) (_h2 : n ≤ 1073741824) : n * 10 ^ 0 = n := by omega
theorem want_1 (n : Int) (_h1 : -1073741824 ≤ n) (_h2 : n ≤ 1073741824) : n * 10 ^ 1 = n * 10 := by omega
theorem want_2 (n : Int) (_h1 : -1073741824 ≤ n) (_h2 : n ≤ 1073741824) : n * 10 ^ 2 = n * 10 * 10 := by omega
theorem want_3 (n : Int) (_h1 : -1073741824 ≤ n) (_h2 : n ≤ 1073741824) : n * 10 ^ 3 = n * 10 * 10 * 10 := by omega

end Go.Proofs.YtahdecppngemeaaDoor
