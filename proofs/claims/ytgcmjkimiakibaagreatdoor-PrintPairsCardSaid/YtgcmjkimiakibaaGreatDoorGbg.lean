/-
  The walk of Length.
-/
import Derived.Test.YtgcmjkimiakibaaGreatDoorGac
import Derived.Test.YtgcmjkimiakibaaGreatDoorGbf
import Derived.Test.YtgcmjkimiakibaaGreatDoorGad
import Derived.Test.YtgcmjkimiakibaaGreatDoorGaa
import Derived.Lib.SmallJoins
import Derived.Lib.IndexBytes
import Derived.Deep.QuietTactic
import Derived.BigQuiet
import Derived.Test.YtgcmjkimiakibaaGreatDoorGah
import Derived.Deep.RegionHeld3
import Derived.Deep.Cut
import Derived.Deep.CutRange
import Derived.Deep.DeepCutAuto
namespace Go.Proofs.YtgcmjkimiakibaaGreatDoor
open Go.RowKit

theorem field_end (a b c d : Int) (w : World) : (Instr.field 106 (.agg #[.int .i64 a, .int .i64 b, .int .i64 c, .int .i64 d]) 3).run Tryz.prog w = .ok (.int .i64 d) w := by kernel_rfl

set_option maxRecDepth 100000 in
set_option maxHeartbeats 400000 in
theorem length_any (s : ByteArray) (w : World) (hs : s.size ≤ maxLen) :
    Calls Tryz.prog 74 #[.string s] w fun e w' => e = .returned (.int .i64 (Fx.len s.data.toList : Nat)) ∧ Below w.heap.size w w' := by
  have HL : Hid (Fx.len s.data.toList = if Fx.spD s.data.toList = Fx.spS s.data.toList then 0 else Fx.spE s.data.toList) := Lib.hid rfl
  have C : (∃ m, m = Fx.len s.data.toList ∧ ∃ x y z : Int, ∀ w : World, Calls Tryz.prog 95 #[.string s] w fun e w' => e = .returned (parts x y z (m : Nat)) ∧ Below w.heap.size w w') := by
    by_cases hn : Fx.spD s.data.toList = Fx.spS s.data.toList
    · exact ⟨0, by unfold Fx.len; rw [if_pos hn], 0, 0, 0, fun w => split_no s w hs hn⟩
    · exact ⟨Fx.spE s.data.toList, by unfold Fx.len; rw [if_neg hn], _, _, _, fun w => split_yes s w hs hn⟩
  clear HL
  obtain ⟨m, hm, x, y, z, C⟩ := C
  have C := Lib.hid C
  rw [← hm]
  clear hm hs
  have hf := field_end x y z m
  go_enter Tryz.func74, Tryz.ntmps74
  go_wp2_with fail
  refine (C.out _).mono ?_
  rintro e w' ⟨rfl, hb⟩
  unfold parts
  go_wp2_with fail
  go_ret
  exact ⟨rfl, hb⟩

end Go.Proofs.YtgcmjkimiakibaaGreatDoor

/-
  The walk of exponent.
-/
namespace Go.Proofs.YtgcmjkimiakibaaGreatDoor
open Go.RowKit

namespace Fx
theorem at_drop (l : List UInt8) (d i : Nat) : at' (l.drop d) i = at' l (d + i) := by
  unfold at'; rw [List.getD_eq_getElem?_getD, List.getD_eq_getElem?_getD, List.getElem?_drop]
theorem sgn_drop (l : List UInt8) (d i : Nat) : sgn (l.drop d) i + d = sgn l (d + i) := by
  unfold sgn; rw [at_drop]; split <;> omega
theorem seg_to_end (l : List UInt8) (a : Nat) : seg l a l.length = l.drop a := by
  unfold seg; rw [← List.length_drop, List.take_length]
end Fx

theorem atoi_tail (t : ByteArray) (hl : t.size ≤ 6) (hn : t.data.toList ≠ []) (hd : ∀ c ∈ t.data.toList, Fx.isD c = true) (w : World) :
    Calls Tryz.prog 114 #[.string t] w fun e w' => e = .returned (.tuple #[.int .i64 (Fx.valFrom 0 t.data.toList : Nat), .nilIface]) ∧ Below w.heap.size w w' := by
  refine (Tryz.strconv_Atoi t _ (by omega) (Fx.atoi_val hn hd) w).mono ?_
  rintro e w' ⟨he, u, hw⟩
  rw [hw]
  exact ⟨he, Go.Joins.below_bytesWorld _ _ _ _ (Nat.le_refl _)⟩

theorem toList_isEmpty {t : ByteArray} {b : Bool} (h : decide (t.size = 0) = b) : t.toList.isEmpty = b := by
  rw [← h, Lib.toList_data]
  have hl : t.data.toList.length = t.size := by simp
  rw [← hl]
  cases t.data.toList <;> simp

set_option maxRecDepth 100000 in
set_option maxHeartbeats 1000000 in
theorem exponent_core (t : ByteArray) (w : World) (hs : t.size ≤ maxLen) (f : Nat) (b : Bool) (h2 : 1 < t.size) (hf : Fx.sgn t.data.toList 1 = f) (hft : f < t.size) (hb : (((t[1]'h2).toNat : Int) == 45) = b)
    (hd : ∀ c ∈ t.data.toList.drop f, Fx.isD c = true) :
    Calls Tryz.prog 96 #[.string t] w fun e w' => e = .returned (.int .i64 (if b = true then - (if t.size - f ≤ 6 then (Fx.valFrom 0 (t.data.toList.drop f) : Int) else 999999) else (if t.size - f ≤ 6 then (Fx.valFrom 0 (t.data.toList.drop f) : Int) else 999999))) ∧ Below w.heap.size w w' := by
  have hs' := hs
  unfold maxLen at hs'
  have hne : t.toList.isEmpty = false := toList_isEmpty (decide_eq_false (by omega))
  have CS := sign_is t hs 1 1 f (by omega) rfl hf
  have f0 : 1 ≤ f := by have := Fx.sgn_lo t.data.toList 1; omega
  have ed : (t.extract f t.size).data.toList = t.data.toList.drop f := Lib.extract_to_end t f
  by_cases h6 : t.size - f ≤ 6
  · have hv := Fx.valFrom_lt _ 0 hd
    have hlen : (t.data.toList.drop f).length = t.size - f := by simp
    rw [hlen] at hv
    have hp : 10 ^ (t.size - f) ≤ 10 ^ 6 := Nat.pow_le_pow_right (by decide) h6
    have hvm : Fx.valFrom 0 (t.data.toList.drop f) < 1000000 := by omega
    have CA : Hid (∀ w : World, Calls Tryz.prog 114 #[.string (t.extract f t.size)] w fun e w' => e = .returned (.tuple #[.int .i64 (Fx.valFrom 0 (t.data.toList.drop f) : Nat), .nilIface]) ∧ Below w.heap.size w w') := Lib.hid fun w => by
      have := atoi_tail (t.extract f t.size) (by rw [ByteArray.size_extract]; omega) (by rw [ed]; intro h; rw [h] at hlen; simp at hlen; omega) (by rw [ed]; exact hd) w
      rw [ed] at this
      exact this
    rw [if_pos h6]
    generalize Fx.valFrom 0 (t.data.toList.drop f) = v at *
    clear hv hlen hp ed hd hf
    cases b
    all_goals
      go_enter Tryz.func96, Tryz.ntmps96
      go_wp2_with (first | (go_at_call 112; ((with_reducible refine (CS.out _).mono ?_); rintro e w' ⟨rfl, rfl⟩)) | (go_at_call 114; ((with_reducible refine (CA.out _).mono ?_); rintro e w' ⟨rfl, hb⟩)))
      go_ret
      exact ⟨rfl, hb⟩
  · rw [if_neg h6]
    clear hd hf ed
    cases b
    all_goals
      go_enter Tryz.func96, Tryz.ntmps96
      go_wp2_with (go_at_call 112; ((with_reducible refine (CS.out _).mono ?_); rintro e w' ⟨rfl, rfl⟩))
      go_ret
      exact ⟨rfl, Below.refl _ _⟩

set_option maxHeartbeats 400000 in
theorem exponent_nil (t : ByteArray) (w : World) (h0 : t.size = 0) :
    Calls Tryz.prog 96 #[.string t] w fun e w' => e = .returned (.int .i64 0) ∧ Below w.heap.size w w' := by
  have hne : t.toList.isEmpty = true := toList_isEmpty (decide_eq_true h0)
  clear h0
  go_enter Tryz.func96, Tryz.ntmps96
  go_wp2_with fail
  go_ret
  exact ⟨rfl, Below.refl _ _⟩

/-- the exponent of a decimal -/
theorem exponent_any (s t : ByteArray) (w : World) (hs : s.size ≤ maxLen) (ht : t.data.toList = s.data.toList.drop (Fx.spD s.data.toList)) (hE : Fx.spE s.data.toList = s.size) :
    Calls Tryz.prog 96 #[.string t] w fun e w' => e = .returned (.int .i64 (Fx.expo s.data.toList)) ∧ Below w.heap.size w w' := by
  generalize hl : s.data.toList = l at *
  have hll : l.length = s.size := by rw [← hl]; simp
  have hts : t.size = s.size - Fx.spD l := by
    have : t.data.toList.length = t.size := by simp
    rw [← this, ht, List.length_drop, hll]
  have b4 := Fx.spD_hi l
  rcases Fx.spE_case l with h | ⟨h1, h2, h3⟩
  · unfold Fx.expo; rw [if_pos h]
    exact exponent_nil t w (by omega)
  · have g1 : Fx.spD l + 1 ≤ Fx.fromE l := Fx.sgn_lo l _
    have hsg := Fx.sgn_drop l (Fx.spD l) 1
    have hfe : Fx.sgn (l.drop (Fx.spD l)) 1 = Fx.fromE l - Fx.spD l := by unfold Fx.fromE; omega
    have hdr : t.data.toList.drop (Fx.fromE l - Fx.spD l) = Fx.seg l (Fx.fromE l) (Fx.spE l) := by
      rw [ht, List.drop_drop, hE, ← hll, Fx.seg_to_end, show Fx.spD l + (Fx.fromE l - Fx.spD l) = Fx.fromE l by omega]
    have hd : ∀ c ∈ t.data.toList.drop (Fx.fromE l - Fx.spD l), Fx.isD c = true := by
      rw [hdr, h3]; exact Fx.seg_isD l _
    have h2' : 1 < t.size := by omega
    have e1 : Fx.at' l (Fx.spD l + 1) = t[1]'h2' := by
      rw [← Fx.get_at t 1 h2', ht, Fx.at_drop]
    refine (exponent_core t w (by omega) (Fx.fromE l - Fx.spD l) _ h2' (by rw [ht]; exact hfe) (by omega) rfl hd).mono ?_
    rintro e w' ⟨he, hb⟩
    refine ⟨?_, hb⟩
    rw [he]
    refine ret_int ?_
    rw [hdr]
    unfold Fx.expo Fx.expMag
    have hne : ¬ Fx.spE l = Fx.spD l := by omega
    rw [if_neg hne, show t.size - (Fx.fromE l - Fx.spD l) = Fx.spE l - Fx.fromE l by omega, e1]
    have hc : (((t[1]'h2').toNat : Int) == 45) = true ↔ t[1]'h2' = 45 := byte_eq (n := 45) (by decide)
    by_cases c : t[1]'h2' = 45
    · rw [if_pos (hc.2 c), if_pos c]; split <;> rfl
    · rw [if_neg (fun h => c (hc.1 h)), if_neg c]; split <;> rfl

end Go.Proofs.YtgcmjkimiakibaaGreatDoor

/-
  The walks of digitsOf's closure, and of leading.
-/
namespace Go.Proofs.YtgcmjkimiakibaaGreatDoor
open Go.RowKit

/-- what the closure has captured -/
structure Has (w : World) (s : ByteArray) (bp bs : Nat) : Prop where
  c0 : w.cell? ⟨bp, 0, none⟩ = some (.int .i64 (Fx.spS s.data.toList : Nat))
  c1 : w.cell? ⟨bp, 1, none⟩ = some (.int .i64 (Fx.spW s.data.toList : Nat))
  c2 : w.cell? ⟨bp, 2, none⟩ = some (.int .i64 (Fx.spD s.data.toList : Nat))
  cs : w.cell? ⟨bs, 0, none⟩ = some (.string s)


set_option maxRecDepth 100000 in
set_option maxHeartbeats 1000000 in
theorem closure_any (s : ByteArray) (bp bs k : Nat) (w : World) (hs : s.size ≤ 70000) (hk : k ≤ 10000000) (hw : Has w s bp bs) :
    Calls Tryz.prog 115 #[.int .i64 (k : Int), .pointer (some ⟨bp, 0, none⟩), .pointer (some ⟨bs, 0, none⟩)] w fun e w' => e = .returned (.int .i64 (Fx.dgt s.data.toList k : Nat)) ∧ w = w' := by
  have hl : s.data.toList.length = s.size := by simp
  have b1 := Fx.spS_hi s.data.toList
  have b2 := Fx.spW_hi s.data.toList
  have b3 := Fx.spW_lo s.data.toList
  have b4 := Fx.spD_hi s.data.toList
  have b5 := Fx.spD_lo s.data.toList
  rw [hl] at b1 b2 b4
  obtain ⟨c0, c1, c2, cs⟩ := hw
  have hd : ∀ i, Fx.isD (Fx.at' s.data.toList i) = true → ∀ h : i < s.size, 48 ≤ (s[i].toNat : Int) ∧ (s[i].toNat : Int) ≤ 57 := by
    intro i h hi
    rw [Fx.get_at s i hi] at h
    exact of_decide_eq_true h
  have hD : Hid (Fx.dgt s.data.toList k = if Fx.spS s.data.toList + k < Fx.spW s.data.toList then Fx.dv (Fx.at' s.data.toList (Fx.spS s.data.toList + k)) else if Fx.spS s.data.toList + k + 1 < Fx.spD s.data.toList then Fx.dv (Fx.at' s.data.toList (Fx.spS s.data.toList + k + 1)) else 0) := Lib.hid rfl
  have hA : Hid (∀ i, Fx.spS s.data.toList ≤ i → i < Fx.spW s.data.toList → Fx.isD (Fx.at' s.data.toList i) = true) := Lib.hid fun i h1 h2 => Fx.dig_in (a := Fx.spS s.data.toList) h1 h2
  have hB : Hid (∀ i, Fx.spW s.data.toList + 1 ≤ i → i < Fx.spD s.data.toList → Fx.isD (Fx.at' s.data.toList i) = true) := Lib.hid fun i h1 h2 => by
    rcases Fx.spD_case s.data.toList with h | ⟨_, _, h⟩
    · omega
    · exact Fx.dig_in (a := Fx.spW s.data.toList + 1) h1 (h ▸ h2)
  generalize Fx.spD s.data.toList = d at *
  generalize Fx.spW s.data.toList = wh at *
  generalize Fx.spS s.data.toList = j at *
  have HD := Lib.hid hd
  clear hl hd
  by_cases h1 : j + k < wh
  · obtain ⟨d1, d2⟩ := HD.out (j + k) (hA.out _ (by omega) h1) (by omega)
    have hv : Hid (Fx.dgt s.data.toList k = Fx.dv s[j + k]) := Lib.hid (by rw [hD.out, if_pos h1, Fx.get_at s (j + k) (by omega)])
    have hsub := Lib.hid (sub_byte d1)
    clear hD hA hB HD
    go_enter Tryz.func115, Tryz.ntmps115
    go_wp2_with fail
    go_ret
    exact ⟨ret_int (by rw [hv.out]; exact hsub.out), rfl⟩
  · by_cases h2 : j + k + 1 < d
    · obtain ⟨d1, d2⟩ := HD.out (j + k + 1) (hB.out _ (by omega) h2) (by omega)
      have hv : Hid (Fx.dgt s.data.toList k = Fx.dv s[j + k + 1]) := Lib.hid (by rw [hD.out, if_neg h1, if_pos h2, Fx.get_at s (j + k + 1) (by omega)])
      have hsub := Lib.hid (sub_byte d1)
      clear hD hA hB HD
      go_enter Tryz.func115, Tryz.ntmps115
      go_wp2_with fail
      go_ret
      exact ⟨ret_int (by rw [hv.out]; exact hsub.out), rfl⟩
    · have hv : Hid (Fx.dgt s.data.toList k = 0) := Lib.hid (by rw [hD.out, if_neg h1, if_neg h2])
      clear hD hA hB HD
      go_enter Tryz.func115, Tryz.ntmps115
      go_wp2_with fail
      go_ret
      exact ⟨ret_int (by rw [hv.out]; rfl), rfl⟩


set_option maxRecDepth 100000 in
set_option maxHeartbeats 2000000 in
theorem leading_any (s : ByteArray) (bp bs : Nat) (p : Int) (w : World) (hs : s.size ≤ 70000) (hp : p ≤ 10000000) (hp' : -10000000 ≤ p) (hw : Has w s bp bs) :
    Calls Tryz.prog 97 #[.func (.func 115) #[] #[.pointer (some ⟨bp, 0, none⟩), .pointer (some ⟨bs, 0, none⟩)], .int .i64 ((Fx.spD s.data.toList : Int) - (Fx.spS s.data.toList : Int)), .int .i64 p] w fun e w' => e = .returned (.int .i64 (min (Fx.V (Fx.dgt s.data.toList) p.toNat : Nat) 1099511627776)) ∧ w = w' := by
  have C : Hid (∀ k : Nat, k ≤ 10000000 → Calls Tryz.prog 115 #[.int .i64 (k : Int), .pointer (some ⟨bp, 0, none⟩), .pointer (some ⟨bs, 0, none⟩)] w fun e w' => e = .returned (.int .i64 (Fx.dgt s.data.toList k : Nat)) ∧ w = w') := Lib.hid fun k hk => closure_any s bp bs k w hs hk hw
  have hl : s.data.toList.length = s.size := by simp
  have b1 := Fx.spS_hi s.data.toList
  have b3 := Fx.spW_lo s.data.toList
  have b4 := Fx.spD_hi s.data.toList
  have b5 := Fx.spD_lo s.data.toList
  rw [hl] at b1 b4
  have hz : Hid (∀ i, Fx.spD s.data.toList - Fx.spS s.data.toList ≤ i → Fx.dgt s.data.toList i = 0) := Lib.hid fun i hi => by
    unfold Fx.dgt; rw [if_neg (by omega), if_neg (by omega)]
  have hle : Hid (∀ i, Fx.dgt s.data.toList i ≤ 9) := Lib.hid (Fx.dgt_le _)
  generalize Fx.spD s.data.toList = d at *
  generalize Fx.spW s.data.toList = wh at *
  generalize Fx.spS s.data.toList = j at *
  generalize Fx.dgt s.data.toList = f at *
  clear hw hl
  go_enter Tryz.func97, Tryz.ntmps97
  go_wp2_with fail
  go_loop [7, 8] (fun n i => ∃ k : Nat, (k : Int) ≤ max p 0 ∧ i = .int .i64 k ∧ n = .int .i64 (Fx.V f k : Nat) ∧ Fx.V f k ≤ 1099511627776) (fun _ i => 10000000 - (intOf i).toNat)
  case atStart => exact ⟨0, by omega, rfl, rfl, Nat.zero_le _⟩
  case round =>
    obtain ⟨k, hk, rfl, rfl, hv⟩ := hrel
    have hf := hle.out k
    have C1 := Lib.hid (C.out k (by omega))
    have hV := Lib.hid (Fx.V_succ f k)
    by_cases h1 : (k : Int) < p
    · have hgo : Hid (Fx.V f (k + 1) = Fx.V f k * 10 + f k) := hV
      have hgt : 1099511627776 < Fx.V f k * 10 + f k → Hid (min ((Fx.V f p.toNat : Nat) : Int) 1099511627776 = 1099511627776) := fun h => Lib.hid (by
        have := Fx.V_le f (a := k + 1) (b := p.toNat) (by omega)
        have := hgo.out
        omega)
      by_cases h2 : 0 < Fx.V f k
      · have hb2 : decide ((0 : Int) < (Fx.V f k : Int)) = true := decide_eq_true (by omega)
        clear hz
        by_cases h3 : 1099511627776 < Fx.V f k * 10 + f k
        · have HG := hgt h3
          clear hgt
          go_wp2_with (go_at_call 115; ((with_reducible refine (C1.out).mono ?_); rintro e w' ⟨rfl, rfl⟩))
          go_ret
          exact ⟨ret_int HG.out.symm, rfl⟩
        · clear hgt
          go_wp2_with (go_at_call 115; ((with_reducible refine (C1.out).mono ?_); rintro e w' ⟨rfl, rfl⟩))
          go_round
          case rel => exact ⟨k + 1, by omega, by go_num, by rw [hgo.out]; go_num, by rw [hgo.out]; omega⟩
          case measure => simp [intOf]; omega
      · have hb2 : decide ((0 : Int) < (Fx.V f k : Int)) = false := decide_eq_false (by omega)
        clear hgt
        by_cases h4 : (k : Int) < (d : Int) - (j : Int)
        · clear hz
          go_wp2_with (go_at_call 115; ((with_reducible refine (C1.out).mono ?_); rintro e w' ⟨rfl, rfl⟩))
          go_round
          case rel => exact ⟨k + 1, by omega, by go_num, by rw [hgo.out]; go_num, by rw [hgo.out]; omega⟩
          case measure => simp [intOf]; omega
        · have hv0 : Hid (Fx.V f p.toNat = 0) := Lib.hid (Fx.V_still f (a := k) (by omega) (fun i hi => hz.out i (by omega)) (by omega))
          have hk0 : Hid (Fx.V f k = 0) := Lib.hid (by omega)
          clear hz
          go_wp2_with fail
          go_ret
          exact ⟨ret_int (by rw [hv0.out, hk0.out]; rfl), rfl⟩
    · have hv0 : Hid (((Fx.V f p.toNat : Nat) : Int) = Fx.V f k) := Lib.hid (by rw [show p.toNat = k by omega])
      clear hz
      go_wp2_with fail
      go_ret
      exact ⟨ret_int (by rw [hv0.out]; omega), rfl⟩

end Go.Proofs.YtgcmjkimiakibaaGreatDoor

/-
  The walk of the program's Parse.
-/
namespace Go.Proofs.YtgcmjkimiakibaaGreatDoor
open Go.RowKit

def DigitsOf (s : ByteArray) (w : World) (e : Ending) (w' : World) : Prop :=
  ∃ bp bs : Nat, e = .returned (.func (.func 115) #[] #[.pointer (some ⟨bp, 0, none⟩), .pointer (some ⟨bs, 0, none⟩)]) ∧ Has w' s bp bs ∧ Below w.heap.size w w'

set_option maxRecDepth 100000 in
set_option maxHeartbeats 400000 in
theorem digitsOf_any (s : ByteArray) (en : Int) (w : World) :
    Calls Tryz.prog 98 #[.string s, .agg #[.int .i64 (Fx.spS s.data.toList : Nat), .int .i64 (Fx.spW s.data.toList : Nat), .int .i64 (Fx.spD s.data.toList : Nat), .int .i64 en]] w (DigitsOf s w) := by
  have hmf : ∀ (fn : Fn) (first cap : Array Value) (w : World), (Instr.makeFunc fn first cap).run Tryz.prog w = .ok (.func fn first cap) w := fun _ _ _ _ => rfl
  go_enter Tryz.func98, Tryz.ntmps98
  go_wp2_with fail
  go_ret
  refine ⟨w.heap.size + 1, w.heap.size, by simp, ⟨?_, ?_, ?_, ?_⟩, ?_⟩
  · simp [go_sem]
  · simp [go_sem]
  · simp [go_sem]
  · simp [go_sem]
  · exact (((Below.refl _ _).alloc (Nat.le_refl _) _).alloc (by simp) _)

theorem len_no {l : List UInt8} (h : Fx.spD l = Fx.spS l) : Fx.len l = 0 := by unfold Fx.len; rw [if_pos h]
theorem len_yes {l : List UInt8} (h : ¬ Fx.spD l = Fx.spS l) : Fx.len l = Fx.spE l := by unfold Fx.len; rw [if_neg h]

set_option maxRecDepth 100000 in
set_option maxHeartbeats 1000000 in
theorem parse_no (s : ByteArray) (w : World) (hs : s.size ≤ 70000) (hn : Fx.isDec s.data.toList = false) :
    Calls Tryz.prog 75 #[.string s] w fun e w' => e = .returned (.tuple #[.int .i64 0, .bool false]) ∧ Below w.heap.size w w' := by
  have hs' : s.size ≤ maxLen := by unfold maxLen; omega
  have hl : s.data.toList.length = s.size := by simp
  by_cases h : Fx.spD s.data.toList = Fx.spS s.data.toList
  · have C := Lib.hid fun w => split_no s w hs' h
    clear h hn hl hs'
    go_enter Tryz.func75, Tryz.ntmps75
    go_wp2_with (go_at_call 95; ((with_reducible refine (C.out _).mono ?_); rintro e w' ⟨rfl, hb⟩; unfold parts))
    go_ret2
    exact ⟨rfl, hb.alloc hb.size _⟩
  · have C := Lib.hid fun w => split_yes s w hs' h
    have hE : Fx.spE s.data.toList < s.size := by
      have h1 := of_decide_eq_false hn
      rw [len_yes h, hl] at h1
      have h2 := Fx.spE_hi s.data.toList
      have h3 := Fx.spE_lo s.data.toList
      have h4 := Fx.spD_lo s.data.toList
      have h5 := Fx.spW_lo s.data.toList
      have : Fx.spE s.data.toList ≠ 0 := by omega
      have : ¬ Fx.spE s.data.toList = s.size := fun e => h1 ⟨this, e⟩
      omega
    generalize Fx.spE s.data.toList = en at *
    generalize Fx.spD s.data.toList = d at *
    generalize Fx.spW s.data.toList = wh at *
    generalize Fx.spS s.data.toList = j at *
    clear h hn hl hs'
    go_enter Tryz.func75, Tryz.ntmps75
    go_wp2_with (go_at_call 95; ((with_reducible refine (C.out _).mono ?_); rintro e w' ⟨rfl, hb⟩; unfold parts))
    all_goals (go_ret2; exact ⟨rfl, hb.alloc hb.size _⟩)

set_option maxRecDepth 100000 in
set_option maxHeartbeats 4000000 in
theorem parse_yes (s : ByteArray) (w : World) (hs : s.size ≤ 70000) (hn : Fx.isDec s.data.toList = true) :
    Calls Tryz.prog 75 #[.string s] w fun e w' => e = .returned (.tuple #[.int .i64 (Fx.num s.data.toList), .bool true]) ∧ Below w.heap.size w w' := by
  have hs' : s.size ≤ maxLen := by unfold maxLen; omega
  have hl : s.data.toList.length = s.size := by simp
  have hn' := of_decide_eq_true hn
  have h : ¬ Fx.spD s.data.toList = Fx.spS s.data.toList := fun h => hn'.1 (len_no h)
  rw [len_yes h, hl] at hn'
  have C := Lib.hid fun w => split_yes s w hs' h
  rw [hn'.2] at C
  have CX : Hid (∀ w : World, Calls Tryz.prog 96 #[.string (s.extract (Fx.spD s.data.toList) s.size)] w fun e w' => e = .returned (.int .i64 (Fx.expo s.data.toList)) ∧ Below w.heap.size w w') :=
    Lib.hid fun w => exponent_any s _ w hs' (Lib.extract_to_end s _) hn'.2
  have CD := Lib.hid (fun w => digitsOf_any s (s.size : Int) w)
  have CL : Hid (∀ (bp bs : Nat) (p : Int) (w : World), p ≤ 10000000 → -10000000 ≤ p → Has w s bp bs → Calls Tryz.prog 97 #[.func (.func 115) #[] #[.pointer (some ⟨bp, 0, none⟩), .pointer (some ⟨bs, 0, none⟩)], .int .i64 ((Fx.spD s.data.toList : Int) - (Fx.spS s.data.toList : Int)), .int .i64 p] w fun e w' => e = .returned (.int .i64 (min (Fx.V (Fx.dgt s.data.toList) p.toNat : Nat) 1099511627776)) ∧ w = w') :=
    Lib.hid fun bp bs p w h1 h2 h3 => leading_any s bp bs p w hs h1 h2 h3
  have hx := Fx.expo_bd s.data.toList
  have hnum : Hid (Fx.num s.data.toList = if Fx.at' s.data.toList 0 = 45 then - min ((Fx.V (Fx.dgt s.data.toList) (((Fx.spW s.data.toList - Fx.spS s.data.toList : Nat) : Int) + Fx.expo s.data.toList + 3).toNat : Nat) : Int) 1099511627776 else min ((Fx.V (Fx.dgt s.data.toList) (((Fx.spW s.data.toList - Fx.spS s.data.toList : Nat) : Int) + Fx.expo s.data.toList + 3).toNat : Nat) : Int) 1099511627776) := Lib.hid rfl
  have b1 := Fx.spS_hi s.data.toList
  have b2 := Fx.spW_hi s.data.toList
  have b3 := Fx.spW_lo s.data.toList
  have b4 := Fx.spD_hi s.data.toList
  have b5 := Fx.spD_lo s.data.toList
  have b6 := Fx.spE_lo s.data.toList
  rw [hl] at b1 b2 b4
  rw [hn'.2] at b6
  have hp : 0 < s.size := by omega
  have hat := Lib.hid (Fx.get_at s 0 hp)
  have hne : ((s.size : Int) == 0) = false := by rw [beq_eq_false_iff_ne]; omega
  generalize Fx.expo s.data.toList = x at *
  generalize Fx.num s.data.toList = r at *
  generalize Fx.spD s.data.toList = d at *
  generalize Fx.spW s.data.toList = wh at *
  generalize Fx.spS s.data.toList = j at *
  generalize Fx.dgt s.data.toList = f at *
  clear h hn hn' hl hs'
  go_enter Tryz.func75, Tryz.ntmps75
  go_upto_region 4 with (go_at_call 95; ((with_reducible refine (C.out _).mono ?_); rintro e w1 ⟨rfl, hb⟩; unfold parts))
  have hsz := hb.size
  have k0 : (w1.alloc (.cells #[.int .i64 j, .int .i64 wh, .int .i64 d, .int .i64 s.size] 106)).cell? ⟨w1.heap.size, 0, none⟩ = some (.int .i64 j) := by simp [go_sem]
  have k1 : (w1.alloc (.cells #[.int .i64 j, .int .i64 wh, .int .i64 d, .int .i64 s.size] 106)).cell? ⟨w1.heap.size, 1, none⟩ = some (.int .i64 wh) := by simp [go_sem]
  have k2 : (w1.alloc (.cells #[.int .i64 j, .int .i64 wh, .int .i64 d, .int .i64 s.size] 106)).cell? ⟨w1.heap.size, 2, none⟩ = some (.int .i64 d) := by simp [go_sem]
  have k3 : (w1.alloc (.cells #[.int .i64 j, .int .i64 wh, .int .i64 d, .int .i64 s.size] 106)).cell? ⟨w1.heap.size, 3, none⟩ = some (.int .i64 s.size) := by simp [go_sem]
  have kb : Below w.heap.size w (w1.alloc (.cells #[.int .i64 j, .int .i64 wh, .int .i64 d, .int .i64 s.size] 106)) := hb.alloc hsz _
  have kz : w1.heap.size < (w1.alloc (.cells #[.int .i64 j, .int .i64 wh, .int .i64 d, .int .i64 s.size] 106)).heap.size := by simp
  generalize w1.alloc (.cells #[.int .i64 j, .int .i64 wh, .int .i64 d, .int .i64 s.size] 106) = W at *
  generalize w1.heap.size = b at *
  clear hb hsz C
  have hX := Lib.hid hx
  obtain ⟨hx1, hx2⟩ := hx
  have kd0 : (0 : Int) ≤ (d : Int) := by omega
  have kd1 : (d : Int) ≤ (s.size : Int) := by omega
  have KB := Lib.hid kb
  clear kb
  go_cut [5] (fun s5 wx => s5 = .int .i64 ((wh : Int) - (j : Int) + x + 3) ∧ wx.cell? ⟨b, 0, none⟩ = some (.int .i64 j) ∧ wx.cell? ⟨b, 1, none⟩ = some (.int .i64 wh) ∧ wx.cell? ⟨b, 2, none⟩ = some (.int .i64 d) ∧ wx.cell? ⟨b, 3, none⟩ = some (.int .i64 s.size) ∧ Hid (Below w.heap.size w wx) ∧ b < wx.heap.size)
  case first =>
    clear hat hne hnum CD CL
    go_region_held3 (fun w' => w'.cell? ⟨b, 0, none⟩ = some (.int .i64 j) ∧ w'.cell? ⟨b, 1, none⟩ = some (.int .i64 wh) ∧ w'.cell? ⟨b, 2, none⟩ = some (.int .i64 d) ∧ w'.cell? ⟨b, 3, none⟩ = some (.int .i64 s.size))
      (first
        | go_keep
        | (go_split_ands; exact ⟨(hb1.cell kz).trans (by assumption), (hb1.cell kz).trans (by assumption), (hb1.cell kz).trans (by assumption), (hb1.cell kz).trans (by assumption)⟩))
      (first
        | (go_at_call 96; refine (CX.out _).mono ?_; rintro e w2 ⟨rfl, hb1⟩))
    obtain ⟨q0, q1, q2, q3⟩ := ‹w2.cell? _ = _ ∧ _›
    have e1 : IntKind.i64.wrap ((wh : Int) - (j : Int)) = (wh : Int) - (j : Int) := IntWalk.i64_in _ (by omega)
    have e2 : IntKind.i64.wrap ((wh : Int) - (j : Int) + x) = (wh : Int) - (j : Int) + x := IntWalk.i64_in _ (by omega)
    have e3 : IntKind.i64.wrap ((wh : Int) - (j : Int) + x + 3) = (wh : Int) - (j : Int) + x + 3 := IntWalk.i64_in _ (by omega)
    go_wp2_with fail
    go_meet
    exact ⟨congrArg (Value.int .i64) (by rw [e1, e2, e3]), q0, q1, q2, q3, Lib.hid (KB.out.drew.trans (hb1.mono (by have := KB.out.size; simpa using this))), by have := hb1.size; simp at this; omega⟩
  case rest =>
    obtain ⟨rfl, c0, c1, c2, c3, hB, hbz⟩ := hcut
    clear k0 k1 k2 k3 kz KB CX
    have ew : IntKind.i64.wrap ((d : Int) - (j : Int)) = (d : Int) - (j : Int) := IntWalk.i64_in _ (by omega)
    have hp1 : (wh : Int) - (j : Int) + x + 3 ≤ 10000000 := by omega
    have hp2 : -10000000 ≤ (wh : Int) - (j : Int) + x + 3 := by omega
    clear hX
    go_upto_region 5 with fail
    go_cut [6] (fun s6 wx => s6 = .int .i64 (min (Fx.V f ((wh : Int) - (j : Int) + x + 3).toNat : Nat) 1099511627776) ∧ Hid (Below w.heap.size w wx))
    case first =>
      clear hat hne hnum
      go_region_held3 (fun w' => w'.cell? ⟨b, 0, none⟩ = some (.int .i64 j) ∧ w'.cell? ⟨b, 1, none⟩ = some (.int .i64 wh) ∧ w'.cell? ⟨b, 2, none⟩ = some (.int .i64 d) ∧ w'.cell? ⟨b, 3, none⟩ = some (.int .i64 s.size))
        (first
          | go_keep
          | (go_split_ands; exact ⟨(hb1.cell hbz).trans (by assumption), (hb1.cell hbz).trans (by assumption), (hb1.cell hbz).trans (by assumption), (hb1.cell hbz).trans (by assumption)⟩))
        (first
          | (go_at_call 98; refine (CD.out _).mono ?_; rintro e w2 ⟨bp, bs, rfl, hH, hb1⟩)
          | (go_at_call 97; refine (CL.out _ _ _ _ hp1 hp2 hH).mono ?_; rintro e w3 ⟨rfl, rfl⟩))
      have hb2 := hb1.size
      go_wp2_with fail
      go_meet
      exact ⟨rfl, Lib.hid (hB.out.drew.trans (hb1.mono (by have := hB.out.size; simpa using this)))⟩
    case rest =>
      obtain ⟨rfl, hB2⟩ := hcut
      have en : ((wh - j : Nat) : Int) = (wh : Int) - (j : Int) := by omega
      rw [en] at hnum
      clear en ew c0 c1 c2 c3 CD CL hB
      obtain ⟨v, hv, hv1, hv2⟩ : ∃ v : Int, v = min ((Fx.V f ((wh : Int) - (j : Int) + x + 3).toNat : Nat) : Int) 1099511627776 ∧ 0 ≤ v ∧ v ≤ 1099511627776 := ⟨_, rfl, by omega, by omega⟩
      rw [← hv] at hnum
      rw [← hv]
      clear hv
      by_cases h45 : s[0] = 45
      · have hb45 : ((s[0].toNat : Int) == 45) = true := by rw [h45]; rfl
        have HN : Hid (r = -v) := Lib.hid (by rw [hnum.out, hat.out, if_pos h45])
        clear h45 hnum hat
        go_wp2_with fail
        go_ret2
        exact ⟨by rw [HN.out]; rfl, hB2⟩
      · have hb45 : ((s[0].toNat : Int) == 45) = false := by
          rw [Bool.eq_false_iff]; intro hh; exact h45 ((byte_eq (n := 45) (by decide)).1 hh)
        have HN : Hid (r = v) := Lib.hid (by rw [hnum.out, hat.out, if_neg h45])
        clear h45 hnum hat
        go_wp2_with fail
        go_ret2
        exact ⟨by rw [HN.out]; rfl, hB2⟩

end Go.Proofs.YtgcmjkimiakibaaGreatDoor
