/-
  The walk of the program's Print.
-/
import Derived.Test.YtahdecppngemeaaDoorFxA
import Derived.Test.YtahdecppngemeaaDoorShelf
import Derived.Lib.Hide
import Derived.Lib.AppendIntMem
import Derived.Lib.SmallJoins
import Derived.Lib.ItoaLen
namespace Go.Proofs.YtahdecppngemeaaDoor
open Go.RowKit

namespace Fx
/-- the three digits behind the point, without noughts at the end -/
def frac (r : Nat) : List UInt8 := Lib.trimRightB ((Lib.decDigits (1000 + r)).drop 1) 48
/-- a number's text, of its sign and its thousandths -/
def textOf (neg : Bool) (m : Nat) : List UInt8 := (if neg then [45] else []) ++ Lib.decDigits (m / 1000) ++ (if m % 1000 = 0 then [] else 46 :: frac (m % 1000))
def text (n : Int) : List UInt8 := textOf (decide (stop n < 0)) (stop n).natAbs
end Fx

def Tab (B : Nat) (w : World) : Prop := Lib.TabBelow Tryd.prog B w "internal/strconv.uint64pow10" .u64 Lib.pow10Tab

def Spells (l : List UInt8) (t : ByteArray) : Prop := t.data.toList = l
theorem spells_size {l : List UInt8} {t : ByteArray} (h : Spells l t) : t.size = l.length := by
  rw [← h]; simp
theorem string_is {l : List UInt8} {t : ByteArray} (h : Spells l t) : Ending.returned (.string t) = .returned (.string ⟨l.toArray⟩) := by
  rw [← h]
def Gives (l : List UInt8) (k : Nat) (B : Nat) (w : World) (e : Ending) (w' : World) : Prop :=
  ∃ t : ByteArray, e = .returned (.string t) ∧ Hid (Spells l t) ∧ t.size ≤ k ∧ Below B w w'
theorem itoa_in (B : Nat) (w0 : World) (hB : B ≤ w0.heap.size) (hT : Tab B w0) (m : Nat) (hm : m ≤ 2000000000) (w : World) (hb : Below w0.heap.size w0 w) :
    Calls Tryd.prog 29 #[.int .i64 (m : Int)] w (Gives (Lib.decDigits m) 21 w.heap.size w) := by
  refine (Tryd.strconv_Itoa (m : Int) (by omega) (by omega) w (Lib.TabBelow.here (Lib.TabBelow.on hT (hb.mono hB)))).mono ?_
  rintro e w' ⟨he, k, os, rfl⟩
  have hl := Lib.itoa_length_le (m : Int) (by omega) (by omega)
  rw [Lib.itoa_nonneg] at he hl
  exact ⟨_, he, Lib.hid rfl, by simpa [ByteArray.size] using hl, Lib.below_grow _ _ (Nat.le_refl _) _ _⟩
theorem trim_in (s : ByteArray) (hs : s.size ≤ 1000) (w : World) :
    Calls Tryd.prog 30 #[.string s, .string ⟨#[48]⟩] w (Gives (Lib.trimRightB s.data.toList 48) 1000 w.heap.size w) := by
  refine (Tryd.strings_TrimRight_one s 48 (by decide) w (by omega)).mono ?_
  rintro e w' ⟨he, rfl⟩
  refine ⟨_, he, Lib.hid rfl, ?_, Below.refl _ _⟩
  have h1 : (Lib.trimRightB s.data.toList 48).length ≤ s.data.toList.length := by
    unfold Lib.trimRightB
    rw [List.length_reverse]
    refine Nat.le_trans (List.dropWhile_sublist _).length_le ?_
    rw [List.length_reverse]
    exact Nat.le_refl _
  have h2 : s.data.toList.length = s.size := by simp
  have h3 : (⟨(Lib.trimRightB s.data.toList 48).toArray⟩ : ByteArray).size = (Lib.trimRightB s.data.toList 48).length := by simp [ByteArray.size]
  omega
theorem size0 : (⟨#[]⟩ : ByteArray).size = 0 := rfl
theorem size1 (c : UInt8) : (⟨#[c]⟩ : ByteArray).size = 1 := rfl
theorem decDigits_four {r : Nat} (h : r < 1000) : (Lib.decDigits (1000 + r)).length = 4 := by
  rw [Lib.decDigits_length, Lib.nDigits_unique 3 _ (by omega) (by omega)]

set_option maxRecDepth 100000 in
set_option maxHeartbeats 1000000 in
theorem print_any (n : Int) (B : Nat) (w : World) (hB : B ≤ w.heap.size) (hT : Tab B w) :
    Calls Tryd.prog 21 #[.int .i64 n] w (Gives (Fx.text n) 100 w.heap.size w) := by
  have h1 := Fx.stop_lo n
  have h2 := Fx.stop_hi n
  have HT := Lib.hid (show Fx.text n = Fx.textOf (decide (Fx.stop n < 0)) (Fx.stop n).natAbs from rfl)
  have hmx : (Fx.stop n).natAbs ≤ 1099511627776 := by omega
  have C1 : Hid (∀ m : Nat, m ≤ 1099511627776 → ∀ w' : World, Below w.heap.size w w' → Calls Tryd.prog 29 #[.int .i64 ((m : Int) / 1000)] w' (Gives (Lib.decDigits (m / 1000)) 21 w'.heap.size w')) := Lib.hid fun m hm w' hb => itoa_in B w hB hT (m / 1000) (by omega) w' hb
  have C2 : Hid (∀ m : Nat, ∀ w' : World, Below w.heap.size w w' → Calls Tryd.prog 29 #[.int .i64 (1000 + (m : Int) % 1000)] w' (Gives (Lib.decDigits (1000 + m % 1000)) 21 w'.heap.size w')) := Lib.hid fun m w' hb => itoa_in B w hB hT (1000 + m % 1000) (by omega) w' hb
  clear hT
  cases d1 : decide (Fx.stop n < 0)
  all_goals
    have e1 : Fx.stop n = ((Fx.stop n).natAbs : Int) ∨ Fx.stop n = -((Fx.stop n).natAbs : Int) := by omega
    first | replace e1 : Fx.stop n = ((Fx.stop n).natAbs : Int) := (by have := of_decide_eq_false d1; omega) | replace e1 : Fx.stop n = -((Fx.stop n).natAbs : Int) := (by have := of_decide_eq_true d1; omega)
    have m1 : decide (Fx.stop n < 0) = true → 0 < (Fx.stop n).natAbs := fun h => by have := of_decide_eq_true h; omega
    rw [d1] at HT m1
    generalize (Fx.stop n).natAbs = m at *
    replace C1 := Lib.hid (C1.out m hmx)
    replace C2 := Lib.hid (C2.out m)
    have hm0 : (0 : Int) ≤ (m : Int) := by omega
    first | (have hm1 : (1 : Int) ≤ (m : Int) := (by have := m1 rfl; omega)) | skip
    clear m1
    by_cases hr : m % 1000 = 0
    · have e2 : (((m : Int) % 1000) == 0) = true := by rw [beq_iff_eq]; omega
      have HR := Lib.hid hr
      clear hr h1 h2
      rw [e1] at d1
      go_enter Tryd.func21, Tryd.ntmps21
      go_wp2_with (first | (go_at_call 10; refine (stop_any _ _).mono ?_; rintro e w' ⟨rfl, rfl⟩) | (go_at_call 29; ((with_reducible refine (C1.out _ (Below.refl _ _)).mono ?_); rintro e w1 ⟨t1, rfl, s1, z1, hb1⟩)))
      go_ret
      refine ⟨_, rfl, Lib.hid ?_, ?_, hb1⟩
      · rw [HT.out, Fx.textOf, HR.out, if_pos rfl]
        have := s1.out
        unfold Spells at *
        simp [this]
      · simp only [ByteArray.size_append, size0, size1]; omega
    · have e2 : (((m : Int) % 1000) == 0) = false := by rw [beq_eq_false_iff_ne]; omega
      have HR := Lib.hid hr
      have h4 := Lib.hid (decDigits_four (r := m % 1000) (by omega))
      clear hr h1 h2
      rw [e1] at d1
      go_enter Tryd.func21, Tryd.ntmps21
      go_wp2_with (first | (go_at_call 10; refine (stop_any _ _).mono ?_; rintro e w' ⟨rfl, rfl⟩) | (go_at_call 29; ((with_reducible refine (C1.out _ (Below.refl _ _)).mono ?_); rintro e w1 ⟨t1, rfl, s1, z1, hb1⟩)) | (go_at_call 29; ((with_reducible refine (C2.out _ hb1).mono ?_); rintro e w2 ⟨t2, rfl, s2, z2, hb2⟩; have z2' : 4 ≤ t2.size := by rw [spells_size s2.out, h4.out]; exact Nat.le_refl _)) | (go_at_call 30; refine (trim_in _ (by rw [ByteArray.size_extract]; omega) _).mono ?_; rintro e w3 ⟨t3, rfl, s3, z3, hb3⟩))
      go_ret
      have hs2 := s2.out
      have hs3 := s3.out
      have hs1 := s1.out
      have hx : t3.data.toList = Fx.frac (m % 1000) := by
        unfold Spells at hs2 hs3
        rw [hs3, Lib.extract_to_end, hs2]; rfl
      have hzz : t3.size ≤ 3 := by
        have h5 := spells_size hs2
        rw [h4.out] at h5
        rw [spells_size hs3]
        unfold Lib.trimRightB
        rw [List.length_reverse]
        refine Nat.le_trans (List.dropWhile_sublist _).length_le ?_
        rw [List.length_reverse, Lib.extract_to_end, hs2, List.length_drop, h4.out]
        decide
      refine ⟨_, rfl, Lib.hid ?_, ?_, (hb1.trans (hb2.mono hb1.size)).trans (hb3.mono (Nat.le_trans hb1.size hb2.size))⟩
      · rw [HT.out, Fx.textOf, if_neg HR.out, ← hx]
        unfold Spells at *
        simp [hs1]
      · simp only [ByteArray.size_append, size0, size1]; omega

end Go.Proofs.YtahdecppngemeaaDoor
