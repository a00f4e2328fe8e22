/-
  The walk of the reference's Print.
-/
import Derived.Test.YtahdecppngemeaaDoorFxC
import Derived.Test.YtahdecppngemeaaDoorFxK
import Derived.OwnWalk
import Derived.Deep.DeepCutAuto
namespace Go.Proofs.YtahdecppngemeaaDoor
open Go.RowKit

namespace Fx
/-- the digits so far -/
def Part (u v : Nat) (t : ByteArray) : Prop :=
  Lib.decDigits u = if t.size = 0 then Lib.decDigits v else if v = 0 then t.data.toList else Lib.decDigits v ++ t.data.toList
theorem part_next {u v : Nat} {t t' : ByteArray} {c : UInt8} (h : Part u v t) (hc : c = UInt8.ofNat (48 + v % 10)) (hgo : 0 < v ∨ t.size = 0) (ht : t'.data.toList = c :: t.data.toList) : Part u (v / 10) t' := by
  unfold Part at *
  have hs : t'.size = t.size + 1 := by
    have e1 : t'.data.toList.length = t'.size := by simp
    have e2 : t.data.toList.length = t.size := by simp
    rw [← e1, ht, List.length_cons, e2]
  rw [if_neg (by omega), ht]
  have hv : Lib.decDigits v = if v / 10 = 0 then [c] else Lib.decDigits (v / 10) ++ [c] := by
    rw [Lib.decDigits]
    by_cases h10 : v < 10
    · rw [dif_pos h10, if_pos (by omega), hc, Nat.mod_eq_of_lt h10]
    · rw [dif_neg h10, if_neg (by omega), hc]
  by_cases h0 : t.size = 0
  · have hn : t.data.toList = [] := by
      have e2 : t.data.toList.length = t.size := by simp
      rw [h0] at e2; exact List.length_eq_zero_iff.1 e2
    rw [if_pos h0] at h
    rw [h, hv, hn]
  · rw [if_neg h0, if_neg (by omega), hv] at h
    rw [h]
    split <;> simp
end Fx

namespace Fx
theorem part_end {u : Nat} {t : ByteArray} (h : Part u 0 t) (h0 : t.size ≠ 0) : t.data.toList = Lib.decDigits u := by
  unfold Part at h; rw [if_neg h0, if_pos rfl] at h; exact h.symm
def dg (n : Nat) : UInt8 := UInt8.ofNat (48 + n)
theorem dec4 {r : Nat} (h : r < 1000) : (Lib.decDigits (1000 + r)).drop 1 = [dg (r / 100), dg (r / 10 % 10), dg (r % 10)] := by
  unfold dg
  rw [Lib.decDigits, dif_neg (by omega), Lib.decDigits, dif_neg (by omega), Lib.decDigits, dif_neg (by omega), Lib.decDigits, dif_pos (by omega)]
  rw [show (1000 + r) / 10 / 10 % 10 = r / 100 by omega, show (1000 + r) / 10 % 10 = r / 10 % 10 by omega, show (1000 + r) % 10 = r % 10 by omega]
  rfl
theorem dg_nought {n : Nat} (h : n < 10) : (dg n == 48) = decide (n = 0) := by
  match n, h with
  | 0, _ => rfl
  | 1, _ => rfl
  | 2, _ => rfl
  | 3, _ => rfl
  | 4, _ => rfl
  | 5, _ => rfl
  | 6, _ => rfl
  | 7, _ => rfl
  | 8, _ => rfl
  | 9, _ => rfl
  | n + 10, h => omega
theorem frac_eq {r : Nat} (h : r < 1000) (h0 : ¬ r = 0) : frac r = [dg (r / 100)] ++ (if 0 < r % 100 then [dg (r / 10 % 10)] else []) ++ (if 0 < r % 10 then [dg (r % 10)] else []) := by
  unfold frac Lib.trimRightB
  rw [dec4 h]
  have n1 := dg_nought (n := r % 10) (by omega)
  have n2 := dg_nought (n := r / 10 % 10) (by omega)
  have n3 := dg_nought (n := r / 100) (by omega)
  by_cases c1 : r % 10 = 0
  · rw [decide_eq_true c1] at n1
    by_cases c2 : r / 10 % 10 = 0
    · rw [decide_eq_true c2] at n2
      rw [decide_eq_false (by omega)] at n3
      rw [if_neg (by omega), if_neg (by omega)]
      simp [n1, n2, n3]
    · rw [decide_eq_false c2] at n2
      rw [if_pos (by omega), if_neg (by omega)]
      simp [n1, n2]
  · rw [decide_eq_false c1] at n1
    rw [if_pos (by omega), if_pos (by omega)]
    simp [n1]
theorem dg_walk (n : Nat) : (48 + UInt8.ofNat n : UInt8) = dg n := by unfold dg; rw [UInt8.ofNat_add]; rfl
end Fx

theorem str_empty {t : ByteArray} {b : Bool} (h : decide (t.size = 0) = b) : t.toList.isEmpty = b := by
  rw [← h, Lib.toList_data]
  have hl : t.data.toList.length = t.size := by simp
  rw [← hl]
  cases t.data.toList <;> simp

theorem run_load_one {P : Program} (W : World) (v : Value) (t : TypeId) : (loadCells ⟨W.heap.size, 0, none⟩ 1).run P (W.alloc (.cells #[v] t)) = .ok #[v] (W.alloc (.cells #[v] t)) := by
  have h := run_loadCells_list (P := P) (w := W.alloc (.cells #[v] t)) ⟨W.heap.size, 0, none⟩ [v] (by
    intro j u hj
    match j, hj with
    | 0, hj => simp only [List.getElem?_cons_zero, Option.some.injEq] at hj; subst hj; simp [Addr.add, go_sem])
  exact h
theorem conv_one (x : Int) (W : World) : (convert 43 9 (.slice (some ⟨W.heap.size, 0, none⟩) 1 1)).run Tryd.prog (W.alloc (.cells #[.int .u8 x] 5)) = .ok (.string ⟨#[UInt8.ofNat x.toNat]⟩) (W.alloc (.cells #[.int .u8 x] 5)) := by
  rw [run_convert_bytes_string _ _ _ 5 _ _ _ Tryd.underlying43 Tryd.underlying5 Tryd.underlying9]
  rw [run_bytesToString _ _ _ _ [x] (by rw [run_load_one]; rfl)]
  rfl

theorem conv_at (x : Int) (W : World) (b : Nat) (h : W.heap.size = b) : (convert 43 9 (.slice (some ⟨b, 0, none⟩) 1 1)).run Tryd.prog (W.alloc (.cells #[.int .u8 x] 5)) = .ok (.string ⟨#[UInt8.ofNat x.toNat]⟩) (W.alloc (.cells #[.int .u8 x] 5)) := by
  subst h; exact conv_one x W

set_option maxRecDepth 100000 in
set_option maxHeartbeats 1000000 in
theorem rprint_any (n : Int) (w : World) :
    Calls Tryd.prog 22 #[.int .i64 n] w (Gives (Fx.text n) 100000000000 w.heap.size w) := by
  have h1 := Fx.stop_lo n
  have h2 := Fx.stop_hi n
  have HT := Lib.hid (show Fx.text n = Fx.textOf (decide (Fx.stop n < 0)) (Fx.stop n).natAbs from rfl)
  have hmx : (Fx.stop n).natAbs ≤ 1099511627776 := by omega
  cases d1 : decide (Fx.stop n < 0)
  all_goals
    have e1 : Fx.stop n = ((Fx.stop n).natAbs : Int) ∨ Fx.stop n = -((Fx.stop n).natAbs : Int) := by omega
    first | replace e1 : Fx.stop n = ((Fx.stop n).natAbs : Int) := (by have := of_decide_eq_false d1; omega) | replace e1 : Fx.stop n = -((Fx.stop n).natAbs : Int) := (by have := of_decide_eq_true d1; omega)
    have m1 : decide (Fx.stop n < 0) = true → 0 < (Fx.stop n).natAbs := fun h => by have := of_decide_eq_true h; omega
    rw [d1] at HT m1
    generalize (Fx.stop n).natAbs = m at *
    have hm0 : (0 : Int) ≤ (m : Int) := by omega
    first | (have hm1 : (1 : Int) ≤ (m : Int) := (by have := m1 rfl; omega)) | skip
    clear m1 h1 h2
    rw [e1] at d1
    go_enter Tryd.func22, Tryd.ntmps22
    go_wp2_with (first | (go_at_call 11; refine (rstop_any _ _).mono ?_; rintro e w' ⟨rfl, rfl⟩))
    go_loopw [4, 5] (fun s4 s5 wr => ∃ (v : Nat) (t : ByteArray), v ≤ 1099511628 ∧ s4 = .int .i64 v ∧ s5 = .string t ∧ Hid (Fx.Part (m / 1000) v t) ∧ t.size + v ≤ m / 1000 + 1 ∧ Below w.heap.size w wr) (fun s4 s5 _ => (intOf s4).toNat * 2 + (match s5 with | .string t => if t.size = 0 then 1 else 0 | _ => 0))
    case atStart => exact ⟨m / 1000, ⟨#[]⟩, by omega, by go_num, rfl, Lib.hid rfl, by show 0 + m / 1000 ≤ _; omega, Below.refl _ _⟩
    case round =>
      obtain ⟨v, t, hv, rfl, rfl, hp, hsz, hb⟩ := hrel
      have HB := Lib.hid hb
      have hbs := hb.size
      clear hb
      by_cases hgo : 0 < v ∨ t.size = 0
      · have hcv := conv_one
        by_cases hv0 : 0 < v
        · go_wp2_with fail
          go_roundw
          case rel =>
            refine ⟨v / 10, _, by omega, by go_num, rfl, Lib.hid (Fx.part_next hp.out (Fx.dg_walk _) hgo (by simp)), ?_, HB.out.alloc hbs _⟩
            simp only [ByteArray.size_append, size1]; omega
          case measure =>
            simp [intOf, ByteArray.size_append, size1]
            omega
        · obtain rfl : v = 0 := by omega
          have he : t.toList.isEmpty = true := str_empty (decide_eq_true (by omega))
          go_wp2_with fail
          go_roundw
          case rel =>
            refine ⟨0, _, by omega, rfl, rfl, Lib.hid (Fx.part_next (v := 0) (c := 48) hp.out rfl hgo (by simp)), ?_, HB.out.alloc hbs _⟩
            simp only [ByteArray.size_append, size1]; omega
          case measure =>
            have hz : t.size = 0 := by omega
            simp [intOf, ByteArray.size_append, size1, hz]
      · obtain rfl : v = 0 := by omega
        have he : t.toList.isEmpty = false := str_empty (decide_eq_false (by omega))
        have HE := Lib.hid (Fx.part_end hp.out (by omega))
        have hts : t.size ≤ 1099511628 := by omega
        have hcv := conv_at
        clear hp hgo hsz
        by_cases hr : m % 1000 = 0
        · have e2 : (((m : Int) % 1000) == 0) = true := by rw [beq_iff_eq]; omega
          have HR := Lib.hid hr
          clear hr
          go_wp2_with fail
          go_ret
          refine ⟨_, rfl, Lib.hid ?_, ?_, HB.out⟩
          · rw [HT.out, Fx.textOf, HR.out, if_pos rfl]
            unfold Spells
            simp [HE.out]
          · simp only [ByteArray.size_append, size0, size1]; omega
        · have e2 : (((m : Int) % 1000) == 0) = false := by rw [beq_eq_false_iff_ne]; omega
          have HF := Lib.hid (Fx.frac_eq (r := m % 1000) (by omega) hr)
          have HR := Lib.hid hr
          clear hr
          have rr : (0 < m % 1000 % 100 ∧ 0 < m % 1000 % 10) ∨ (0 < m % 1000 % 100 ∧ ¬ 0 < m % 1000 % 10) ∨ (¬ 0 < m % 1000 % 100 ∧ ¬ 0 < m % 1000 % 10) := by omega
          rcases rr with ⟨r1, r0⟩ | ⟨r1, r0⟩ | ⟨r1, r0⟩
          all_goals
            have HF' := HF.out
            first | rw [if_pos r1] at HF' | rw [if_neg r1] at HF'
            first | rw [if_pos r0] at HF' | rw [if_neg r0] at HF'
            have HG := Lib.hid HF'
            clear HF'
            go_wp2_with fail
            go_ret
            refine ⟨_, rfl, Lib.hid ?_, ?_, by repeat (first | exact HB.out | refine Below.alloc ?_ (by first | exact hbs | (simp; omega)) _)⟩
            · rw [HT.out, Fx.textOf, if_neg HR.out, HG.out]
              unfold Spells
              simp only [Fx.dg_walk]
              simp [HE.out, Fx.dg]
            · simp only [ByteArray.size_append, size0, size1]; omega

end Go.Proofs.YtahdecppngemeaaDoor
