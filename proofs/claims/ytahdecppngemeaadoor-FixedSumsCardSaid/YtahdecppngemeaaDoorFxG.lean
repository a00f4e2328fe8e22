/-
  The walk of exponent.
-/
import Derived.Test.YtahdecppngemeaaDoorFxM
import Derived.Test.YtahdecppngemeaaDoorShelf
import Derived.Lib.SmallJoins
import Derived.Lib.IndexBytes
import Derived.Deep.QuietTactic
import Derived.BigQuiet
namespace Go.Proofs.YtahdecppngemeaaDoor
open Go.RowKit

namespace Fx
theorem at_drop (l : List UInt8) (d i : Nat) : at' (l.drop d) i = at' l (d + i) := by
  unfold at'; rw [List.getD_eq_getElem?_getD, List.getD_eq_getElem?_getD, List.getElem?_drop]
theorem sgn_drop (l : List UInt8) (d i : Nat) : sgn (l.drop d) i + d = sgn l (d + i) := by
  unfold sgn; rw [at_drop]; split <;> omega
theorem seg_to_end (l : List UInt8) (a : Nat) : seg l a l.length = l.drop a := by
  unfold seg; rw [← List.length_drop, List.take_length]
end Fx

theorem atoi_tail (t : ByteArray) (hl : t.size ≤ 6) (hn : t.data.toList ≠ []) (hd : ∀ c ∈ t.data.toList, Fx.isD c = true) (w : World) :
    Calls Tryd.prog 34 #[.string t] w fun e w' => e = .returned (.tuple #[.int .i64 (Fx.valFrom 0 t.data.toList : Nat), .nilIface]) ∧ Below w.heap.size w w' := by
  refine (Tryd.strconv_Atoi t _ (by omega) (Fx.atoi_val hn hd) w).mono ?_
  rintro e w' ⟨he, u, hw⟩
  rw [hw]
  exact ⟨he, Go.Joins.below_bytesWorld _ _ _ _ (Nat.le_refl _)⟩

theorem toList_isEmpty {t : ByteArray} {b : Bool} (h : decide (t.size = 0) = b) : t.toList.isEmpty = b := by
  rw [← h, Lib.toList_data]
  have hl : t.data.toList.length = t.size := by simp
  rw [← hl]
  cases t.data.toList <;> simp

set_option maxRecDepth 100000 in
set_option maxHeartbeats 1000000 in
theorem exponent_core (t : ByteArray) (w : World) (hs : t.size ≤ maxLen) (f : Nat) (b : Bool) (h2 : 1 < t.size) (hf : Fx.sgn t.data.toList 1 = f) (hft : f < t.size) (hb : (((t[1]'h2).toNat : Int) == 45) = b)
    (hd : ∀ c ∈ t.data.toList.drop f, Fx.isD c = true) :
    Calls Tryd.prog 25 #[.string t] w fun e w' => e = .returned (.int .i64 (if b = true then - (if t.size - f ≤ 6 then (Fx.valFrom 0 (t.data.toList.drop f) : Int) else 999999) else (if t.size - f ≤ 6 then (Fx.valFrom 0 (t.data.toList.drop f) : Int) else 999999))) ∧ Below w.heap.size w w' := by
  have hs' := hs
  unfold maxLen at hs'
  have hne : t.toList.isEmpty = false := toList_isEmpty (decide_eq_false (by omega))
  have CS := sign_is t hs 1 1 f (by omega) rfl hf
  have f0 : 1 ≤ f := by have := Fx.sgn_lo t.data.toList 1; omega
  have ed : (t.extract f t.size).data.toList = t.data.toList.drop f := Lib.extract_to_end t f
  by_cases h6 : t.size - f ≤ 6
  · have hv := Fx.valFrom_lt _ 0 hd
    have hlen : (t.data.toList.drop f).length = t.size - f := by simp
    rw [hlen] at hv
    have hp : 10 ^ (t.size - f) ≤ 10 ^ 6 := Nat.pow_le_pow_right (by decide) h6
    have hvm : Fx.valFrom 0 (t.data.toList.drop f) < 1000000 := by omega
    have CA : Hid (∀ w : World, Calls Tryd.prog 34 #[.string (t.extract f t.size)] w fun e w' => e = .returned (.tuple #[.int .i64 (Fx.valFrom 0 (t.data.toList.drop f) : Nat), .nilIface]) ∧ Below w.heap.size w w') := Lib.hid fun w => by
      have := atoi_tail (t.extract f t.size) (by rw [ByteArray.size_extract]; omega) (by rw [ed]; intro h; rw [h] at hlen; simp at hlen; omega) (by rw [ed]; exact hd) w
      rw [ed] at this
      exact this
    rw [if_pos h6]
    generalize Fx.valFrom 0 (t.data.toList.drop f) = v at *
    clear hv hlen hp ed hd hf
    cases b
    all_goals
      go_enter Tryd.func25, Tryd.ntmps25
      go_wp2_with (first | (go_at_call 32; ((with_reducible refine (CS.out _).mono ?_); rintro e w' ⟨rfl, rfl⟩)) | (go_at_call 34; ((with_reducible refine (CA.out _).mono ?_); rintro e w' ⟨rfl, hb⟩)))
      go_ret
      exact ⟨rfl, hb⟩
  · rw [if_neg h6]
    clear hd hf ed
    cases b
    all_goals
      go_enter Tryd.func25, Tryd.ntmps25
      go_wp2_with (go_at_call 32; ((with_reducible refine (CS.out _).mono ?_); rintro e w' ⟨rfl, rfl⟩))
      go_ret
      exact ⟨rfl, Below.refl _ _⟩

set_option maxHeartbeats 400000 in
theorem exponent_nil (t : ByteArray) (w : World) (h0 : t.size = 0) :
    Calls Tryd.prog 25 #[.string t] w fun e w' => e = .returned (.int .i64 0) ∧ Below w.heap.size w w' := by
  have hne : t.toList.isEmpty = true := toList_isEmpty (decide_eq_true h0)
  clear h0
  go_enter Tryd.func25, Tryd.ntmps25
  go_wp2_with fail
  go_ret
  exact ⟨rfl, Below.refl _ _⟩

/-- the exponent of a decimal -/
theorem exponent_any (s t : ByteArray) (w : World) (hs : s.size ≤ maxLen) (ht : t.data.toList = s.data.toList.drop (Fx.spD s.data.toList)) (hE : Fx.spE s.data.toList = s.size) :
    Calls Tryd.prog 25 #[.string t] w fun e w' => e = .returned (.int .i64 (Fx.expo s.data.toList)) ∧ Below w.heap.size w w' := by
  generalize hl : s.data.toList = l at *
  have hll : l.length = s.size := by rw [← hl]; simp
  have hts : t.size = s.size - Fx.spD l := by
    have : t.data.toList.length = t.size := by simp
    rw [← this, ht, List.length_drop, hll]
  have b4 := Fx.spD_hi l
  rcases Fx.spE_case l with h | ⟨h1, h2, h3⟩
  · unfold Fx.expo; rw [if_pos h]
    exact exponent_nil t w (by omega)
  · have g1 : Fx.spD l + 1 ≤ Fx.fromE l := Fx.sgn_lo l _
    have hsg := Fx.sgn_drop l (Fx.spD l) 1
    have hfe : Fx.sgn (l.drop (Fx.spD l)) 1 = Fx.fromE l - Fx.spD l := by unfold Fx.fromE; omega
    have hdr : t.data.toList.drop (Fx.fromE l - Fx.spD l) = Fx.seg l (Fx.fromE l) (Fx.spE l) := by
      rw [ht, List.drop_drop, hE, ← hll, Fx.seg_to_end, show Fx.spD l + (Fx.fromE l - Fx.spD l) = Fx.fromE l by omega]
    have hd : ∀ c ∈ t.data.toList.drop (Fx.fromE l - Fx.spD l), Fx.isD c = true := by
      rw [hdr, h3]; exact Fx.seg_isD l _
    have h2' : 1 < t.size := by omega
    have e1 : Fx.at' l (Fx.spD l + 1) = t[1]'h2' := by
      rw [← Fx.get_at t 1 h2', ht, Fx.at_drop]
    refine (exponent_core t w (by omega) (Fx.fromE l - Fx.spD l) _ h2' (by rw [ht]; exact hfe) (by omega) rfl hd).mono ?_
    rintro e w' ⟨he, hb⟩
    refine ⟨?_, hb⟩
    rw [he]
    refine ret_int ?_
    rw [hdr]
    unfold Fx.expo Fx.expMag
    have hne : ¬ Fx.spE l = Fx.spD l := by omega
    rw [if_neg hne, show t.size - (Fx.fromE l - Fx.spD l) = Fx.spE l - Fx.fromE l by omega, e1]
    have hc : (((t[1]'h2').toNat : Int) == 45) = true ↔ t[1]'h2' = 45 := byte_eq (n := 45) (by decide)
    by_cases c : t[1]'h2' = 45
    · rw [if_pos (hc.2 c), if_pos c]; split <;> rfl
    · rw [if_neg (fun h => c (hc.1 h)), if_neg c]; split <;> rfl

end Go.Proofs.YtahdecppngemeaaDoor
