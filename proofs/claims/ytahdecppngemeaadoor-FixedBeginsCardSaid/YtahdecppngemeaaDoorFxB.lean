/-
  Walks over strings: afterSign, afterDigits, digit.
-/
import Derived.Test.YtahdecppngemeaaDoorFxA
import Derived.Lib.Hide
import Derived.LoopTactic
namespace Go.Proofs.YtahdecppngemeaaDoor
open Go.RowKit

namespace Fx
/-- the byte at a place; 0 behind the end -/
def at' (l : List UInt8) (k : Nat) : UInt8 := l.getD k 0
def isD (c : UInt8) : Bool := decide (48 ≤ (c.toNat : Int) ∧ (c.toNat : Int) ≤ 57)
def sgn (l : List UInt8) (k : Nat) : Nat := if (at' l k = 43 ∨ at' l k = 45) then k + 1 else k
def dig (l : List UInt8) (k : Nat) : Nat := k + ((l.drop k).takeWhile isD).length
theorem get_at (s : ByteArray) (k : Nat) (h : k < s.size) : at' s.data.toList k = s[k] := by
  unfold at'
  have h' : k < s.data.toList.length := by simpa using h
  rw [List.getD_eq_getElem?_getD, List.getElem?_eq_getElem h']; rfl
theorem get_past (s : ByteArray) (k : Nat) (h : s.size ≤ k) : at' s.data.toList k = 0 := by
  unfold at'
  have h' : s.data.toList.length ≤ k := by simpa using h
  rw [List.getD_eq_getElem?_getD, List.getElem?_eq_none h']; rfl
theorem dig_no (l : List UInt8) (k : Nat) (h : isD (at' l k) = false) : dig l k = k := by
  unfold at' at h
  unfold dig
  by_cases hk : k < l.length
  · rw [List.drop_eq_getElem_cons hk, List.takeWhile_cons]
    rw [List.getD_eq_getElem?_getD, List.getElem?_eq_getElem hk] at h
    simp at h; simp [h]
  · rw [List.drop_eq_nil_of_le (by omega)]; rfl
theorem isD_zero : isD 0 = false := by decide
theorem dig_yes (l : List UInt8) (k : Nat) (h : isD (at' l k) = true) : dig l k = dig l (k + 1) := by
  unfold at' at h
  have hk : k < l.length := by
    by_cases hk : k < l.length
    · exact hk
    · rw [List.getD_eq_getElem?_getD, List.getElem?_eq_none (by omega)] at h; exact absurd h (by decide)
  unfold dig
  rw [List.drop_eq_getElem_cons hk, List.takeWhile_cons]
  rw [List.getD_eq_getElem?_getD, List.getElem?_eq_getElem hk] at h
  simp at h; simp [h]; omega
theorem dig_lo (l : List UInt8) (k : Nat) : k ≤ dig l k := by unfold dig; omega
theorem dig_hi (l : List UInt8) (k : Nat) (h : k ≤ l.length) : dig l k ≤ l.length := by
  unfold dig
  have h1 : ((l.drop k).takeWhile isD).length ≤ (l.drop k).length := List.takeWhile_sublist .. |>.length_le
  simp at h1; omega
theorem isD_of {c : UInt8} (h : 48 ≤ (c.toNat : Int)) (h' : (c.toNat : Int) ≤ 57) : isD c = true := by
  unfold isD; exact decide_eq_true ⟨h, h'⟩
theorem isD_not {c : UInt8} (h : (c.toNat : Int) < 48 ∨ 57 < (c.toNat : Int)) : isD c = false := by
  unfold isD; exact decide_eq_false (by omega)
end Fx

theorem byte_eq {c : UInt8} {n : Nat} (hn : n < 256) : ((c.toNat : Int) == (n : Int)) = true ↔ c = UInt8.ofNat n := by
  rw [beq_iff_eq]
  constructor
  · intro h; apply UInt8.toNat_inj.1; rw [UInt8.toNat_ofNat']; omega
  · rintro rfl; rw [UInt8.toNat_ofNat']; omega

set_option maxHeartbeats 400000 in
theorem afterSign_any (s : ByteArray) (a : Int) (w : World) (hs : s.size ≤ maxLen) (h0 : 0 ≤ a) (h1 : a ≤ s.size) :
    Calls Tryd.prog 32 #[.string s, .int .i64 a] w fun e w' => e = .returned (.int .i64 (Fx.sgn s.data.toList a.toNat : Nat)) ∧ w = w' := by
  unfold maxLen at hs
  obtain ⟨k, rfl⟩ := Int.eq_ofNat_of_zero_le h0
  rw [Int.toNat_natCast]
  by_cases hk : k < s.size
  · have hg := Fx.get_at s k hk
    by_cases h43 : s[k] = 43
    · have hb : ((s[k].toNat : Int) == 43) = true := by rw [h43]; rfl
      have H := Lib.hid hg; clear hg
      have H43 := Lib.hid h43; clear h43
      go_enter Tryd.func32, Tryd.ntmps32
      go_wp2
      go_ret
      exact ⟨ret_int (by rw [Fx.sgn, H.out, H43.out]; simp), rfl⟩
    · have hb : ((s[k].toNat : Int) == 43) = false := by
        rw [Bool.eq_false_iff]; intro h; exact h43 ((byte_eq (by decide)).1 h)
      by_cases h45 : s[k] = 45
      · have hc : ((s[k].toNat : Int) == 45) = true := by rw [h45]; rfl
        have H := Lib.hid hg; clear hg
        have H45 := Lib.hid h45; clear h45 h43
        go_enter Tryd.func32, Tryd.ntmps32
        go_wp2
        go_ret
        exact ⟨ret_int (by rw [Fx.sgn, H.out, H45.out]; simp), rfl⟩
      · have hc : ((s[k].toNat : Int) == 45) = false := by
          rw [Bool.eq_false_iff]; intro h; exact h45 ((byte_eq (by decide)).1 h)
        have H := Lib.hid hg; clear hg
        have H43 := Lib.hid h43; clear h43
        have H45 := Lib.hid h45; clear h45
        go_enter Tryd.func32, Tryd.ntmps32
        go_wp2
        go_ret
        exact ⟨ret_int (by rw [Fx.sgn, H.out, if_neg (by have := H43.out; have := H45.out; simp [*])]), rfl⟩
  · have hg := Fx.get_past s k (by omega)
    have H := Lib.hid hg; clear hg
    go_enter Tryd.func32, Tryd.ntmps32
    go_wp2
    go_ret
    exact ⟨ret_int (by rw [Fx.sgn, H.out]; simp), rfl⟩

set_option maxHeartbeats 400000 in
theorem afterDigits_any (s : ByteArray) (a : Int) (w : World) (hs : s.size ≤ maxLen) (h0 : 0 ≤ a) (h1 : a ≤ s.size) :
    Calls Tryd.prog 33 #[.string s, .int .i64 a] w fun e w' => e = .returned (.int .i64 (Fx.dig s.data.toList a.toNat : Nat)) ∧ w = w' := by
  unfold maxLen at hs
  obtain ⟨j, rfl⟩ := Int.eq_ofNat_of_zero_le h0
  rw [Int.toNat_natCast]
  go_enter Tryd.func33, Tryd.ntmps33
  go_wp2
  go_loop [1] (fun i => ∃ k : Nat, k ≤ s.size ∧ i = .int .i64 k ∧ Hid (Fx.dig s.data.toList j = Fx.dig s.data.toList k)) (fun i => s.size - (intOf i).toNat)
  case atStart => exact ⟨j, by omega, rfl, Lib.hid rfl⟩
  case round =>
    obtain ⟨k, hk, rfl, H⟩ := hrel
    by_cases hlt : k < s.size
    · have G := Lib.hid (Fx.get_at s k hlt)
      by_cases d1 : 48 ≤ (s[k].toNat : Int)
      · by_cases d2 : (s[k].toNat : Int) ≤ 57
        · have Y := Lib.hid (Fx.isD_of d1 d2)
          go_wp2
          go_round
          case rel => exact ⟨k + 1, by omega, by go_num, Lib.hid (by rw [H.out]; exact Fx.dig_yes _ _ (by rw [G.out]; exact Y.out))⟩
          case measure => simp [intOf]; omega
        · have Y := Lib.hid (Fx.isD_not (Or.inr (Int.not_le.1 d2)))
          go_wp2
          go_ret
          exact ⟨ret_int (by rw [H.out, Fx.dig_no _ _ (by rw [G.out]; exact Y.out)]), rfl⟩
      · have Y := Lib.hid (Fx.isD_not (Or.inl (Int.not_le.1 d1)))
        go_wp2
        go_ret
        exact ⟨ret_int (by rw [H.out, Fx.dig_no _ _ (by rw [G.out]; exact Y.out)]), rfl⟩
    · have G := Lib.hid (Fx.get_past s k (by omega))
      go_wp2
      go_ret
      exact ⟨ret_int (by rw [H.out, Fx.dig_no _ _ (by rw [G.out]; exact Fx.isD_zero)]), rfl⟩

set_option maxHeartbeats 400000 in
theorem digit_any (s : ByteArray) (a : Int) (w : World) (_hs : s.size ≤ maxLen) (h0 : 0 ≤ a) :
    Calls Tryd.prog 28 #[.string s, .int .i64 a] w fun e w' => e = .returned (.bool (Fx.isD (Fx.at' s.data.toList a.toNat))) ∧ w = w' := by
  obtain ⟨k, rfl⟩ := Int.eq_ofNat_of_zero_le h0
  rw [Int.toNat_natCast]
  by_cases hk : k < s.size
  · have G := Lib.hid (Fx.get_at s k hk)
    by_cases d1 : 48 ≤ (s[k].toNat : Int)
    · by_cases d2 : (s[k].toNat : Int) ≤ 57
      · have Y := Lib.hid (Fx.isD_of d1 d2)
        go_enter Tryd.func28, Tryd.ntmps28
        go_wp2
        go_ret
        exact ⟨ret_bool (by rw [G.out, Y.out]), rfl⟩
      · have Y := Lib.hid (Fx.isD_not (Or.inr (Int.not_le.1 d2)))
        have d3 : decide ((s[k].toNat : Int) ≤ 57) = false := decide_eq_false d2
        go_enter Tryd.func28, Tryd.ntmps28
        go_wp2
        go_ret
        exact ⟨ret_bool (by rw [G.out, Y.out]), rfl⟩
    · have Y := Lib.hid (Fx.isD_not (Or.inl (Int.not_le.1 d1)))
      go_enter Tryd.func28, Tryd.ntmps28
      go_wp2
      go_ret
      exact ⟨ret_bool (by rw [G.out, Y.out]), rfl⟩
  · have G := Lib.hid (Fx.get_past s k (by omega))
    go_enter Tryd.func28, Tryd.ntmps28
    go_wp2
    go_ret
    exact ⟨ret_bool (by rw [G.out]; rfl), rfl⟩

end Go.Proofs.YtahdecppngemeaaDoor
