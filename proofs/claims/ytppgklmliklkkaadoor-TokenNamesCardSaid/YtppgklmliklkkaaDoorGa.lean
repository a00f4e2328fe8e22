/-
  What all texts of a seat share: endings, the rows of the plain types, old cells behind a call that makes memory.
-/
import Derived.Test.YtppgklmliklkkaaDoorRows
import Derived.WalkKit
import Derived.Below
import Derived.Lib.MinMax
import Derived.WalkSpells
import Derived.WalkLawsBesides
import Derived.Lib.Hide
import Derived.LoopTactic
namespace Go.Proofs.YtppgklmliklkkaaDoor
open Go.RowKit

theorem ret_int {k : IntKind} {a b : Int} (h : a = b) : Ending.returned (.int k a) = .returned (.int k b) := by rw [h]
theorem ret_bool {a b : Bool} (h : a = b) : Ending.returned (.bool a) = .returned (.bool b) := by rw [h]
theorem ret_two {k1 k2 : IntKind} {a b c d : Int} (h1 : a = c) (h2 : b = d) : Ending.returned (.tuple #[.int k1 a, .int k2 b]) = .returned (.tuple #[.int k1 c, .int k2 d]) := by rw [h1, h2]
theorem Tryd.info5 : (Tryd.prog.info? 5).map (fun i => (i.zero, i.size, i.bytes)) = some (some (.int .u8 0), 1, 1) := by kernel_rfl
theorem Tryd.info3 : (Tryd.prog.info? 3).map (fun i => (i.zero, i.size, i.bytes)) = some (some (.int .i64 0), 1, 8) := by kernel_rfl
theorem bcell {W w1 : World} (hb : Below W.heap.size W w1) : (∀ b o, b < W.heap.size → w1.cell? ⟨b, o, none⟩ = W.cell? ⟨b, o, none⟩) ∧ (∀ b o, b < W.heap.size → w1.frozen? ⟨b, o, none⟩ = W.frozen? ⟨b, o, none⟩) :=
  ⟨fun b o h => hb.cell (p := ⟨b, o, none⟩) h, fun b o h => hb.frozen (p := ⟨b, o, none⟩) h⟩
end Go.Proofs.YtppgklmliklkkaaDoor

/-
  Signs and digits of a text: plain words.
-/
namespace Go.Proofs.YtppgklmliklkkaaDoor
open Go.RowKit

namespace Fx
/-- the byte at a place; 0 behind the end -/
def at' (l : List UInt8) (k : Nat) : UInt8 := l.getD k 0
def isD (c : UInt8) : Bool := decide (48 ≤ (c.toNat : Int) ∧ (c.toNat : Int) ≤ 57)
def sgn (l : List UInt8) (k : Nat) : Nat := if (at' l k = 43 ∨ at' l k = 45) then k + 1 else k
def dig (l : List UInt8) (k : Nat) : Nat := k + ((l.drop k).takeWhile isD).length
theorem get_at (s : ByteArray) (k : Nat) (h : k < s.size) : at' s.data.toList k = s[k] := by
  unfold at'
  have h' : k < s.data.toList.length := by simpa using h
  rw [List.getD_eq_getElem?_getD, List.getElem?_eq_getElem h']; rfl
theorem get_past (s : ByteArray) (k : Nat) (h : s.size ≤ k) : at' s.data.toList k = 0 := by
  unfold at'
  have h' : s.data.toList.length ≤ k := by simpa using h
  rw [List.getD_eq_getElem?_getD, List.getElem?_eq_none h']; rfl
theorem dig_no (l : List UInt8) (k : Nat) (h : isD (at' l k) = false) : dig l k = k := by
  unfold at' at h
  unfold dig
  by_cases hk : k < l.length
  · rw [List.drop_eq_getElem_cons hk, List.takeWhile_cons]
    rw [List.getD_eq_getElem?_getD, List.getElem?_eq_getElem hk] at h
    simp at h; simp [h]
  · rw [List.drop_eq_nil_of_le (by omega)]; rfl
theorem isD_zero : isD 0 = false := by decide
theorem dig_yes (l : List UInt8) (k : Nat) (h : isD (at' l k) = true) : dig l k = dig l (k + 1) := by
  unfold at' at h
  have hk : k < l.length := by
    by_cases hk : k < l.length
    · exact hk
    · rw [List.getD_eq_getElem?_getD, List.getElem?_eq_none (by omega)] at h; exact absurd h (by decide)
  unfold dig
  rw [List.drop_eq_getElem_cons hk, List.takeWhile_cons]
  rw [List.getD_eq_getElem?_getD, List.getElem?_eq_getElem hk] at h
  simp at h; simp [h]; omega
theorem dig_lo (l : List UInt8) (k : Nat) : k ≤ dig l k := by unfold dig; omega
theorem dig_hi (l : List UInt8) (k : Nat) (h : k ≤ l.length) : dig l k ≤ l.length := by
  unfold dig
  have h1 : ((l.drop k).takeWhile isD).length ≤ (l.drop k).length := List.takeWhile_sublist .. |>.length_le
  simp at h1; omega
theorem isD_of {c : UInt8} (h : 48 ≤ (c.toNat : Int)) (h' : (c.toNat : Int) ≤ 57) : isD c = true := by
  unfold isD; exact decide_eq_true ⟨h, h'⟩
theorem isD_not {c : UInt8} (h : (c.toNat : Int) < 48 ∨ 57 < (c.toNat : Int)) : isD c = false := by
  unfold isD; exact decide_eq_false (by omega)
end Fx

theorem byte_eq {c : UInt8} {n : Nat} (hn : n < 256) : ((c.toNat : Int) == (n : Int)) = true ↔ c = UInt8.ofNat n := by
  rw [beq_iff_eq]
  constructor
  · intro h; apply UInt8.toNat_inj.1; rw [UInt8.toNat_ofNat']; omega
  · rintro rfl; rw [UInt8.toNat_ofNat']; omega

end Go.Proofs.YtppgklmliklkkaaDoor

/-
  The parts of a decimal: plain words.
-/
namespace Go.Proofs.YtppgklmliklkkaaDoor
open Go.RowKit

namespace Fx
def spS (l : List UInt8) : Nat := sgn l 0
def spW (l : List UInt8) : Nat := dig l (spS l)
/-- the place behind the digits -/
def spDof (l : List UInt8) (w : Nat) : Nat := if at' l w = 46 ∧ w + 1 < dig l (w + 1) then dig l (w + 1) else w
def spD (l : List UInt8) : Nat := spDof l (spW l)
/-- the place behind the exponent, if there is one -/
def spEof (l : List UInt8) (d : Nat) : Nat := if (at' l d = 101 ∨ at' l d = 69) ∧ sgn l (d + 1) < dig l (sgn l (d + 1)) then dig l (sgn l (d + 1)) else d
def spE (l : List UInt8) : Nat := spEof l (spD l)

theorem sgn_lo (l : List UInt8) (k : Nat) : k ≤ sgn l k := by unfold sgn; split <;> omega
theorem at_zero {l : List UInt8} {k : Nat} (h : ¬ k < l.length) : at' l k = 0 := by
  unfold at'; rw [List.getD_eq_getElem?_getD, List.getElem?_eq_none (by omega)]; rfl
theorem sgn_hi (l : List UInt8) (k : Nat) (h : k ≤ l.length) : sgn l k ≤ l.length := by
  unfold sgn
  by_cases hk : k < l.length
  · split <;> omega
  · rw [at_zero hk]; simp; exact h
theorem spS_hi (l : List UInt8) : spS l ≤ l.length := sgn_hi l 0 (Nat.zero_le _)
theorem spS_one (l : List UInt8) : spS l ≤ 1 := by unfold spS sgn; split <;> omega
theorem spW_hi (l : List UInt8) : spW l ≤ l.length := dig_hi l _ (spS_hi l)
theorem spW_lo (l : List UInt8) : spS l ≤ spW l := dig_lo l _
theorem spDof_lo (l : List UInt8) (w : Nat) : w ≤ spDof l w := by unfold spDof; split <;> omega
theorem spDof_hi (l : List UInt8) (w : Nat) (h : w ≤ l.length) : spDof l w ≤ l.length := by
  unfold spDof; split
  · rename_i hc
    by_cases hw : w < l.length
    · exact dig_hi l _ (by omega)
    · rw [at_zero hw] at hc; exact absurd hc.1 (by decide)
  · exact h
theorem spD_hi (l : List UInt8) : spD l ≤ l.length := spDof_hi l _ (spW_hi l)
theorem spD_lo (l : List UInt8) : spW l ≤ spD l := spDof_lo l _
theorem spEof_lo (l : List UInt8) (w : Nat) : w ≤ spEof l w := by
  unfold spEof; split
  · have := dig_lo l (sgn l (w + 1)); have := sgn_lo l (w + 1); omega
  · omega
theorem spEof_hi (l : List UInt8) (w : Nat) (h : w ≤ l.length) : spEof l w ≤ l.length := by
  unfold spEof; split
  · rename_i hc
    by_cases hw : w < l.length
    · exact dig_hi l _ (sgn_hi l _ (by omega))
    · rw [at_zero hw] at hc; exact absurd hc.1 (by decide)
  · exact h
theorem spE_hi (l : List UInt8) : spE l ≤ l.length := spEof_hi l _ (spD_hi l)
theorem spE_lo (l : List UInt8) : spD l ≤ spE l := spEof_lo l _

/-- the ways behind the whole digits -/
inductive WayD (s : ByteArray) (w d : Nat) : Prop
  | frac (h : w < s.size) (hb : ((s[w].toNat : Int) == 46) = true) (hd : d = dig s.data.toList (w + 1)) (hl : w + 1 < d)
  | point (h : w < s.size) (hb : ((s[w].toNat : Int) == 46) = true) (hd : dig s.data.toList (w + 1) = w + 1) (hw : d = w)
  | other (h : w < s.size) (hb : ((s[w].toNat : Int) == 46) = false) (hw : d = w)
  | past (h : ¬ w < s.size) (hw : d = w)
theorem wayD (s : ByteArray) (w : Nat) : WayD s w (spDof s.data.toList w) := by
  by_cases h : w < s.size
  · have hg := get_at s w h
    by_cases hb : s[w] = 46
    · have hb' : ((s[w].toNat : Int) == 46) = true := by rw [hb]; rfl
      by_cases hd : w + 1 < dig s.data.toList (w + 1)
      · have e : spDof s.data.toList w = dig s.data.toList (w + 1) := by unfold spDof; rw [hg, hb, if_pos ⟨rfl, hd⟩]
        exact .frac h hb' e (by omega)
      · have e : spDof s.data.toList w = w := by unfold spDof; rw [if_neg (fun c => hd c.2)]
        exact .point h hb' (by have := dig_lo s.data.toList (w + 1); omega) e
    · have hb' : ((s[w].toNat : Int) == 46) = false := by
        rw [Bool.eq_false_iff]; intro hh; exact hb ((byte_eq (n := 46) (by decide)).1 hh)
      have e : spDof s.data.toList w = w := by unfold spDof; rw [hg, if_neg (fun c => hb c.1)]
      exact .other h hb' e
  · have e : spDof s.data.toList w = w := by unfold spDof; rw [get_past s w (by omega), if_neg (fun c => absurd c.1 (by decide))]
    exact .past h e

/-- the ways behind all digits -/
inductive WayE (s : ByteArray) (d e : Nat) : Prop
  | yes (h : d < s.size) (hb : ((s[d].toNat : Int) == 101) = true ∨ (((s[d].toNat : Int) == 101) = false ∧ ((s[d].toNat : Int) == 69) = true)) (he : e = dig s.data.toList (sgn s.data.toList (d + 1))) (hl : sgn s.data.toList (d + 1) < e)
  | bare (h : d < s.size) (hb : ((s[d].toNat : Int) == 101) = true ∨ (((s[d].toNat : Int) == 101) = false ∧ ((s[d].toNat : Int) == 69) = true)) (hd : dig s.data.toList (sgn s.data.toList (d + 1)) = sgn s.data.toList (d + 1)) (he : e = d)
  | other (h : d < s.size) (hb : ((s[d].toNat : Int) == 101) = false) (hc : ((s[d].toNat : Int) == 69) = false) (he : e = d)
  | past (h : ¬ d < s.size) (he : e = d)
theorem wayE (s : ByteArray) (d : Nat) : WayE s d (spEof s.data.toList d) := by
  by_cases h : d < s.size
  · have hg := get_at s d h
    by_cases hb : s[d] = 101 ∨ s[d] = 69
    · have hb' : ((s[d].toNat : Int) == 101) = true ∨ (((s[d].toNat : Int) == 101) = false ∧ ((s[d].toNat : Int) == 69) = true) := by
        rcases hb with hb | hb
        · left; rw [hb]; rfl
        · right; rw [hb]; exact ⟨rfl, rfl⟩
      by_cases hd : sgn s.data.toList (d + 1) < dig s.data.toList (sgn s.data.toList (d + 1))
      · have e : spEof s.data.toList d = dig s.data.toList (sgn s.data.toList (d + 1)) := by unfold spEof; rw [hg, if_pos ⟨hb, hd⟩]
        exact .yes h hb' e (by omega)
      · have e : spEof s.data.toList d = d := by unfold spEof; rw [if_neg (fun c => hd c.2)]
        exact .bare h hb' (by have := dig_lo s.data.toList (sgn s.data.toList (d + 1)); omega) e
    · have hb1 : ((s[d].toNat : Int) == 101) = false := by
        rw [Bool.eq_false_iff]; intro hh; exact hb (Or.inl ((byte_eq (n := 101) (by decide)).1 hh))
      have hb2 : ((s[d].toNat : Int) == 69) = false := by
        rw [Bool.eq_false_iff]; intro hh; exact hb (Or.inr ((byte_eq (n := 69) (by decide)).1 hh))
      have e : spEof s.data.toList d = d := by unfold spEof; rw [hg, if_neg (fun c => hb c.1)]
      exact .other h hb1 hb2 e
  · have e : spEof s.data.toList d = d := by unfold spEof; rw [get_past s d (by omega), if_neg (fun c => absurd c.1 (by decide))]
    exact .past h e
end Fx
end Go.Proofs.YtppgklmliklkkaaDoor

/-
  How long a decimal is: plain words.
-/
namespace Go.Proofs.YtppgklmliklkkaaDoor
open Go.RowKit

namespace Fx
/-- how many bytes the longest decimal has -/
def len (l : List UInt8) : Nat := if spD l = spS l then 0 else spE l
theorem len_hi (l : List UInt8) : len l ≤ l.length := by unfold len; split; omega; exact spE_hi l
end Fx
end Go.Proofs.YtppgklmliklkkaaDoor

/-
  Plain words of digits. No run of the program in this text.
-/
namespace Go.Proofs.YtppgklmliklkkaaDoor
open Go.RowKit

namespace Fx
theorem isD_dig (l : List UInt8) (i : Nat) : isD (at' l i) = decide (i < dig l i) := by
  cases h : isD (at' l i)
  · rw [dig_no l i h]; simp
  · have := dig_yes l i h; have := dig_lo l (i + 1); symm; apply decide_eq_true; omega
theorem at_lt {l : List UInt8} {i : Nat} (h : isD (at' l i) = true) : i < l.length := by
  by_cases hi : i < l.length
  · exact hi
  · rw [at_zero hi] at h; exact absurd h (by decide)
end Fx
end Go.Proofs.YtppgklmliklkkaaDoor

/-
  Numbers that are stopped: plain words.
-/
namespace Go.Proofs.YtppgklmliklkkaaDoor
open Go.RowKit

namespace Fx
/-- a number, stopped -/
def stop (n : Int) : Int := max (-1099511627776) (min n 1099511627776)
theorem stop_lo (n : Int) : -1099511627776 ≤ stop n := by unfold stop; omega
theorem stop_hi (n : Int) : stop n ≤ 1099511627776 := by unfold stop; omega
theorem stop_id {n : Int} (h1 : -1099511627776 ≤ n) (h2 : n ≤ 1099511627776) : stop n = n := by unfold stop; omega
theorem stop_stop (n : Int) : stop (stop n) = stop n := stop_id (stop_lo n) (stop_hi n)
end Fx
end Go.Proofs.YtppgklmliklkkaaDoor
