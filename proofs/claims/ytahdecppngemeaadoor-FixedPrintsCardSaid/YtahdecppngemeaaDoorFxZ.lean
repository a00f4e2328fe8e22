/-
  The walks of the statements FixedPrints, FixedBegins, FixedSums.
-/
import Derived.Test.YtahdecppngemeaaDoorFxY
import Derived.Test.YtahdecppngemeaaDoorFxN
import Derived.Test.YtahdecppngemeaaDoorFxP
namespace Go.Proofs.YtahdecppngemeaaDoor
open Go.RowKit

namespace Fx
theorem text_is (n : Int) : isDec (text n) = true ∧ num (text n) = stop n ∧ len (text n) = (text n).length := by
  have h1 := stop_lo n
  have h2 := stop_hi n
  have hd := text_dec (decide (stop n < 0)) (stop n).natAbs
  refine ⟨hd, ?_, ?_⟩
  · have hn := text_num (decide (stop n < 0)) (stop n).natAbs (by omega)
    unfold text
    rw [hn]
    by_cases h : stop n < 0
    · rw [if_pos (decide_eq_true h)]; omega
    · rw [if_neg (by simp [h])]; omega
  · have := of_decide_eq_true hd
    exact this.2
end Fx

theorem gives_is {n : Int} {k B : Nat} {w : World} {e : Ending} {w' : World} {t : ByteArray} (ht : t = ⟨(Fx.text n).toArray⟩) (h : Gives (Fx.text n) k B w e w') : e = .returned (.string t) ∧ t.size ≤ k ∧ Below B w w' := by
  obtain ⟨t', rfl, hs, hk, hb⟩ := h
  have : t' = t := by
    rw [ht]
    have := hs.out
    unfold Spells at this
    rw [← this]
  subst this
  exact ⟨rfl, hk, hb⟩

set_option maxRecDepth 100000 in
set_option maxHeartbeats 1000000 in
theorem prints_any (n : Int) (B : Nat) (w : World) (hB : B ≤ w.heap.size) (hT : Tab B w) :
    Calls Tryd.prog 5 #[.int .i64 n] w (Yes w) := by
  have CA : Hid (∀ w' : World, Below w.heap.size w w' → Calls Tryd.prog 16 #[] w' (Yes w')) := Lib.hid fun w' hb => awake_any B w' (Nat.le_trans hB hb.size) (Lib.TabBelow.on hT (hb.mono hB))
  obtain ⟨t, ht⟩ : ∃ t : ByteArray, t = ⟨(Fx.text n).toArray⟩ := ⟨_, rfl⟩
  have hl : t.data.toList = Fx.text n := by rw [ht]
  have C1 : Hid (Calls Tryd.prog 21 #[.int .i64 n] w fun e w' => e = .returned (.string t) ∧ t.size ≤ 100 ∧ Below w.heap.size w w') := Lib.hid ((print_any n B w hB hT).mono fun e w' h => gives_is ht h)
  have C2 : Hid (∀ w : World, Calls Tryd.prog 22 #[.int .i64 n] w fun e w' => e = .returned (.string t) ∧ t.size ≤ 100000000000 ∧ Below w.heap.size w w') := Lib.hid fun w => (rprint_any n w).mono fun e w' h => gives_is ht h
  obtain ⟨f1, f2, f3⟩ := Fx.text_is n
  have CP : Hid (t.size ≤ 100 → ∀ w : World, Calls Tryd.prog 17 #[.string t] w fun e w' => e = .returned (.tuple #[.int .i64 (Fx.stop n), .bool true]) ∧ Below w.heap.size w w') := Lib.hid fun hs w => by
    have := parse_yes t w (by omega) (by rw [hl]; exact f1)
    rw [hl, f2] at this
    exact this
  have CL : Hid (t.size ≤ 100 → ∀ w : World, Calls Tryd.prog 19 #[.string t] w fun e w' => e = .returned (.int .i64 (t.size : Int)) ∧ Below w.heap.size w w') := Lib.hid fun hs w => by
    have := length_any t w (by unfold maxLen; omega)
    rw [hl, f3, ← hl, len_of_size] at this
    exact this
  have CS := Lib.hid fun w => rstop_any n w
  clear hT ht hl f1 f2 f3
  go_enter Tryd.func5, Tryd.ntmps5
  go_wp2_with (first | (go_at_call 21; ((with_reducible refine (C1.out).mono ?_); rintro e w1 ⟨rfl, hs, hb1⟩)) | (go_at_call 17; ((with_reducible refine (CP.out hs _).mono ?_); rintro e w2 ⟨rfl, hb2⟩)) | (go_at_call 22; ((with_reducible refine (C2.out _).mono ?_); rintro e w3 ⟨rfl, _, hb3⟩)) | (go_at_call 11; ((with_reducible refine (CS.out _).mono ?_); rintro e w' ⟨rfl, rfl⟩)) | (go_at_call 19; ((with_reducible refine (CL.out hs _).mono ?_); rintro e w4 ⟨rfl, hb4⟩; have z1 := hb1.size; have z2 := hb2.size; have z3 := hb3.size; have hc := ((hb1.trans (hb2.mono z1)).trans (hb3.mono (Nat.le_trans z1 z2))).trans (hb4.mono (Nat.le_trans z1 (Nat.le_trans z2 z3))))) | (go_at_call 16; ((with_reducible refine (CA.out _ hc).mono ?_); rintro e w' ⟨rfl, hb⟩)))
  go_ret
  exact ⟨rfl, hc.trans (hb.mono hc.size)⟩

set_option maxRecDepth 100000 in
set_option maxHeartbeats 2000000 in
theorem begins_any (s : ByteArray) (B : Nat) (w : World) (hB : B ≤ w.heap.size) (hT : Tab B w) (hs : s.size ≤ 140737488351232) :
    Calls Tryd.prog 8 #[.string s] w (Yes w) := by
  have CA : Hid (∀ w' : World, Below w.heap.size w w' → Calls Tryd.prog 16 #[] w' (Yes w')) := Lib.hid fun w' hb => awake_any B w' (Nat.le_trans hB hb.size) (Lib.TabBelow.on hT (hb.mono hB))
  clear hT
  by_cases h300 : 300 < s.size
  · go_enter Tryd.func8, Tryd.ntmps8
    go_wp2_with (go_at_call 16; ((with_reducible refine (CA.out _ (Below.refl _ _)).mono ?_); rintro e w' ⟨rfl, hb⟩))
    go_ret
    exact ⟨rfl, hb⟩
  · have L1 := Lib.hid fun w => length_any s w (by unfold maxLen; omega)
    have hl := len_of_size s
    have hm := Fx.len_hi s.data.toList
    rw [hl] at hm
    have hx : ∀ k, (s.extract 0 k).data.toList = s.data.toList.take k := fun k => by rw [Lib.extract_data]; simp
    have hxs : ∀ k, (s.extract 0 k).size ≤ s.size := fun k => by rw [ByteArray.size_extract]; omega
    have P1 : Hid (0 < Fx.len s.data.toList → ∀ w : World, Calls Tryd.prog 17 #[.string (s.extract 0 (Fx.len s.data.toList))] w fun e w' => e = .returned (.tuple #[.int .i64 (Fx.num (s.extract 0 (Fx.len s.data.toList)).data.toList), .bool true]) ∧ Below w.heap.size w w') := Lib.hid fun h w => parse_yes _ w (by have := hxs (Fx.len s.data.toList); omega) (by rw [hx]; exact Fx.begins_yes h)
    have P0 : Hid (Fx.len s.data.toList = 0 → ∀ w : World, Calls Tryd.prog 17 #[.string (s.extract 0 (Fx.len s.data.toList))] w fun e w' => e = .returned (.tuple #[.int .i64 0, .bool false]) ∧ Below w.heap.size w w') := Lib.hid fun h w => parse_no _ w (by have := hxs (Fx.len s.data.toList); omega) (by rw [hx, h]; rfl)
    have P2 : Hid (∀ k : Nat, Fx.len s.data.toList < k → k ≤ s.size → ∀ w : World, Calls Tryd.prog 17 #[.string (s.extract 0 k)] w fun e w' => e = .returned (.tuple #[.int .i64 0, .bool false]) ∧ Below w.heap.size w w') := Lib.hid fun k h1 h2 w => parse_no _ w (by have := hxs k; omega) (by rw [hx]; exact Fx.begins_no (by rw [hl]; exact h2) h1)
    clear hl hx hxs
    generalize Fx.len s.data.toList = m at *
    generalize Fx.num (s.extract 0 m).data.toList = v at *
    have hm0 : (0 : Int) ≤ (m : Int) := by omega
    obtain ⟨b, u, hb, CP⟩ : ∃ (b : Bool) (u : Int), b = decide ((0 : Int) < (m : Int)) ∧ Hid (∀ w : World, Calls Tryd.prog 17 #[.string (s.extract 0 m)] w fun e w' => e = .returned (.tuple #[.int .i64 u, .bool b]) ∧ Below w.heap.size w w') := by
      by_cases h0 : 0 < m
      · exact ⟨true, v, (decide_eq_true (by omega)).symm, Lib.hid (P1.out h0)⟩
      · exact ⟨false, 0, (decide_eq_false (by omega)).symm, Lib.hid (P0.out (by omega))⟩
    clear P0 P1
    subst hb
    go_enter Tryd.func8, Tryd.ntmps8
    go_wp2_with (first | (go_at_call 19; ((with_reducible refine (L1.out _).mono ?_); rintro e w1 ⟨rfl, hb1⟩)) | (go_at_call 17; ((with_reducible refine (CP.out _).mono ?_); rintro e w2 ⟨rfl, hb2⟩)))
    have hc := hb1.trans (hb2.mono hb1.size)
    clear hb1 hb2 CP L1
    go_loopw [6] (fun s6 wr => ∃ k : Nat, m < k ∧ k ≤ s.size + 1 ∧ s6 = .int .i64 k ∧ Below w.heap.size w wr) (fun s6 _ => s.size + 1 - (intOf s6).toNat)
    case atStart => exact ⟨m + 1, by omega, by omega, by go_num, hc⟩
    case round =>
      obtain ⟨k, hk1, hk2, rfl, hbr⟩ := hrel
      have HB := Lib.hid hbr
      clear hbr hc
      by_cases hlt : k ≤ s.size
      · have C := Lib.hid (P2.out k hk1 hlt)
        have hk0 : (0 : Int) ≤ (k : Int) := by omega
        clear P2 CA
        go_wp2_with (go_at_call 17; ((with_reducible refine (C.out _).mono ?_); rintro e w3 ⟨rfl, hb3⟩))
        go_roundw
        case rel => exact ⟨k + 1, by omega, by omega, by go_num, HB.out.trans (hb3.mono HB.out.size)⟩
        case measure => simp [intOf]; omega
      · have C := Lib.hid (CA.out _ HB.out)
        clear P2 CA
        go_wp2_with (go_at_call 16; ((with_reducible refine (C.out).mono ?_); rintro e w3 ⟨rfl, hb3⟩))
        go_ret
        exact ⟨rfl, HB.out.trans (hb3.mono HB.out.size)⟩

end Go.Proofs.YtahdecppngemeaaDoor
