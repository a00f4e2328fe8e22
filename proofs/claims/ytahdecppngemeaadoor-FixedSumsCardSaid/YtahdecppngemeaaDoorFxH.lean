/-
  The walks of digitsOf's closure, and of leading.
-/
import Derived.Test.YtahdecppngemeaaDoorFxM
namespace Go.Proofs.YtahdecppngemeaaDoor
open Go.RowKit

/-- what the closure has captured -/
structure Has (w : World) (s : ByteArray) (bp bs : Nat) : Prop where
  c0 : w.cell? ⟨bp, 0, none⟩ = some (.int .i64 (Fx.spS s.data.toList : Nat))
  c1 : w.cell? ⟨bp, 1, none⟩ = some (.int .i64 (Fx.spW s.data.toList : Nat))
  c2 : w.cell? ⟨bp, 2, none⟩ = some (.int .i64 (Fx.spD s.data.toList : Nat))
  cs : w.cell? ⟨bs, 0, none⟩ = some (.string s)

theorem sub_byte {c : UInt8} (h : 48 ≤ (c.toNat : Int)) : ((c.toNat : Int) - 48) = ((Fx.dv c : Nat) : Int) := by unfold Fx.dv; omega

set_option maxRecDepth 100000 in
set_option maxHeartbeats 1000000 in
theorem closure_any (s : ByteArray) (bp bs k : Nat) (w : World) (hs : s.size ≤ 1000) (hk : k ≤ 10000000) (hw : Has w s bp bs) :
    Calls Tryd.prog 35 #[.int .i64 (k : Int), .pointer (some ⟨bp, 0, none⟩), .pointer (some ⟨bs, 0, none⟩)] w fun e w' => e = .returned (.int .i64 (Fx.dgt s.data.toList k : Nat)) ∧ w = w' := by
  have hl : s.data.toList.length = s.size := by simp
  have b1 := Fx.spS_hi s.data.toList
  have b2 := Fx.spW_hi s.data.toList
  have b3 := Fx.spW_lo s.data.toList
  have b4 := Fx.spD_hi s.data.toList
  have b5 := Fx.spD_lo s.data.toList
  rw [hl] at b1 b2 b4
  obtain ⟨c0, c1, c2, cs⟩ := hw
  have hd : ∀ i, Fx.isD (Fx.at' s.data.toList i) = true → ∀ h : i < s.size, 48 ≤ (s[i].toNat : Int) ∧ (s[i].toNat : Int) ≤ 57 := by
    intro i h hi
    rw [Fx.get_at s i hi] at h
    exact of_decide_eq_true h
  have hD : Hid (Fx.dgt s.data.toList k = if Fx.spS s.data.toList + k < Fx.spW s.data.toList then Fx.dv (Fx.at' s.data.toList (Fx.spS s.data.toList + k)) else if Fx.spS s.data.toList + k + 1 < Fx.spD s.data.toList then Fx.dv (Fx.at' s.data.toList (Fx.spS s.data.toList + k + 1)) else 0) := Lib.hid rfl
  have hA : Hid (∀ i, Fx.spS s.data.toList ≤ i → i < Fx.spW s.data.toList → Fx.isD (Fx.at' s.data.toList i) = true) := Lib.hid fun i h1 h2 => Fx.dig_in (a := Fx.spS s.data.toList) h1 h2
  have hB : Hid (∀ i, Fx.spW s.data.toList + 1 ≤ i → i < Fx.spD s.data.toList → Fx.isD (Fx.at' s.data.toList i) = true) := Lib.hid fun i h1 h2 => by
    rcases Fx.spD_case s.data.toList with h | ⟨_, _, h⟩
    · omega
    · exact Fx.dig_in (a := Fx.spW s.data.toList + 1) h1 (h ▸ h2)
  generalize Fx.spD s.data.toList = d at *
  generalize Fx.spW s.data.toList = wh at *
  generalize Fx.spS s.data.toList = j at *
  have HD := Lib.hid hd
  clear hl hd
  by_cases h1 : j + k < wh
  · obtain ⟨d1, d2⟩ := HD.out (j + k) (hA.out _ (by omega) h1) (by omega)
    have hv : Hid (Fx.dgt s.data.toList k = Fx.dv s[j + k]) := Lib.hid (by rw [hD.out, if_pos h1, Fx.get_at s (j + k) (by omega)])
    have hsub := Lib.hid (sub_byte d1)
    clear hD hA hB HD
    go_enter Tryd.func35, Tryd.ntmps35
    go_wp2_with fail
    go_ret
    exact ⟨ret_int (by rw [hv.out]; exact hsub.out), rfl⟩
  · by_cases h2 : j + k + 1 < d
    · obtain ⟨d1, d2⟩ := HD.out (j + k + 1) (hB.out _ (by omega) h2) (by omega)
      have hv : Hid (Fx.dgt s.data.toList k = Fx.dv s[j + k + 1]) := Lib.hid (by rw [hD.out, if_neg h1, if_pos h2, Fx.get_at s (j + k + 1) (by omega)])
      have hsub := Lib.hid (sub_byte d1)
      clear hD hA hB HD
      go_enter Tryd.func35, Tryd.ntmps35
      go_wp2_with fail
      go_ret
      exact ⟨ret_int (by rw [hv.out]; exact hsub.out), rfl⟩
    · have hv : Hid (Fx.dgt s.data.toList k = 0) := Lib.hid (by rw [hD.out, if_neg h1, if_neg h2])
      clear hD hA hB HD
      go_enter Tryd.func35, Tryd.ntmps35
      go_wp2_with fail
      go_ret
      exact ⟨ret_int (by rw [hv.out]; rfl), rfl⟩

namespace Fx
theorem V_succ (f : Nat → Nat) (n : Nat) : V f (n + 1) = V f n * 10 + f n := rfl
theorem V_le (f : Nat → Nat) {a b : Nat} (h : a ≤ b) : V f a ≤ V f b := by
  have := V_mono f a (b - a); rw [show a + (b - a) = b by omega] at this; exact this
theorem V_still (f : Nat → Nat) {a b : Nat} (h0 : V f a = 0) (hf : ∀ i, a ≤ i → f i = 0) (h : a ≤ b) : V f b = 0 := by
  have := V_zero f a h0 hf (b - a); rw [show a + (b - a) = b by omega] at this; exact this
end Fx

set_option maxRecDepth 100000 in
set_option maxHeartbeats 2000000 in
theorem leading_any (s : ByteArray) (bp bs : Nat) (p : Int) (w : World) (hs : s.size ≤ 1000) (hp : p ≤ 10000000) (hp' : -10000000 ≤ p) (hw : Has w s bp bs) :
    Calls Tryd.prog 26 #[.func (.func 35) #[] #[.pointer (some ⟨bp, 0, none⟩), .pointer (some ⟨bs, 0, none⟩)], .int .i64 ((Fx.spD s.data.toList : Int) - (Fx.spS s.data.toList : Int)), .int .i64 p] w fun e w' => e = .returned (.int .i64 (min (Fx.V (Fx.dgt s.data.toList) p.toNat : Nat) 1099511627776)) ∧ w = w' := by
  have C : Hid (∀ k : Nat, k ≤ 10000000 → Calls Tryd.prog 35 #[.int .i64 (k : Int), .pointer (some ⟨bp, 0, none⟩), .pointer (some ⟨bs, 0, none⟩)] w fun e w' => e = .returned (.int .i64 (Fx.dgt s.data.toList k : Nat)) ∧ w = w') := Lib.hid fun k hk => closure_any s bp bs k w hs hk hw
  have hl : s.data.toList.length = s.size := by simp
  have b1 := Fx.spS_hi s.data.toList
  have b3 := Fx.spW_lo s.data.toList
  have b4 := Fx.spD_hi s.data.toList
  have b5 := Fx.spD_lo s.data.toList
  rw [hl] at b1 b4
  have hz : Hid (∀ i, Fx.spD s.data.toList - Fx.spS s.data.toList ≤ i → Fx.dgt s.data.toList i = 0) := Lib.hid fun i hi => by
    unfold Fx.dgt; rw [if_neg (by omega), if_neg (by omega)]
  have hle : Hid (∀ i, Fx.dgt s.data.toList i ≤ 9) := Lib.hid (Fx.dgt_le _)
  generalize Fx.spD s.data.toList = d at *
  generalize Fx.spW s.data.toList = wh at *
  generalize Fx.spS s.data.toList = j at *
  generalize Fx.dgt s.data.toList = f at *
  clear hw hl
  go_enter Tryd.func26, Tryd.ntmps26
  go_wp2_with fail
  go_loop [7, 8] (fun n i => ∃ k : Nat, (k : Int) ≤ max p 0 ∧ i = .int .i64 k ∧ n = .int .i64 (Fx.V f k : Nat) ∧ Fx.V f k ≤ 1099511627776) (fun _ i => 10000000 - (intOf i).toNat)
  case atStart => exact ⟨0, by omega, rfl, rfl, Nat.zero_le _⟩
  case round =>
    obtain ⟨k, hk, rfl, rfl, hv⟩ := hrel
    have hf := hle.out k
    have C1 := Lib.hid (C.out k (by omega))
    have hV := Lib.hid (Fx.V_succ f k)
    by_cases h1 : (k : Int) < p
    · have hgo : Hid (Fx.V f (k + 1) = Fx.V f k * 10 + f k) := hV
      have hgt : 1099511627776 < Fx.V f k * 10 + f k → Hid (min ((Fx.V f p.toNat : Nat) : Int) 1099511627776 = 1099511627776) := fun h => Lib.hid (by
        have := Fx.V_le f (a := k + 1) (b := p.toNat) (by omega)
        have := hgo.out
        omega)
      by_cases h2 : 0 < Fx.V f k
      · have hb2 : decide ((0 : Int) < (Fx.V f k : Int)) = true := decide_eq_true (by omega)
        clear hz
        by_cases h3 : 1099511627776 < Fx.V f k * 10 + f k
        · have HG := hgt h3
          clear hgt
          go_wp2_with (go_at_call 35; ((with_reducible refine (C1.out).mono ?_); rintro e w' ⟨rfl, rfl⟩))
          go_ret
          exact ⟨ret_int HG.out.symm, rfl⟩
        · clear hgt
          go_wp2_with (go_at_call 35; ((with_reducible refine (C1.out).mono ?_); rintro e w' ⟨rfl, rfl⟩))
          go_round
          case rel => exact ⟨k + 1, by omega, by go_num, by rw [hgo.out]; go_num, by rw [hgo.out]; omega⟩
          case measure => simp [intOf]; omega
      · have hb2 : decide ((0 : Int) < (Fx.V f k : Int)) = false := decide_eq_false (by omega)
        clear hgt
        by_cases h4 : (k : Int) < (d : Int) - (j : Int)
        · clear hz
          go_wp2_with (go_at_call 35; ((with_reducible refine (C1.out).mono ?_); rintro e w' ⟨rfl, rfl⟩))
          go_round
          case rel => exact ⟨k + 1, by omega, by go_num, by rw [hgo.out]; go_num, by rw [hgo.out]; omega⟩
          case measure => simp [intOf]; omega
        · have hv0 : Hid (Fx.V f p.toNat = 0) := Lib.hid (Fx.V_still f (a := k) (by omega) (fun i hi => hz.out i (by omega)) (by omega))
          have hk0 : Hid (Fx.V f k = 0) := Lib.hid (by omega)
          clear hz
          go_wp2_with fail
          go_ret
          exact ⟨ret_int (by rw [hv0.out, hk0.out]; rfl), rfl⟩
    · have hv0 : Hid (((Fx.V f p.toNat : Nat) : Int) = Fx.V f k) := Lib.hid (by rw [show p.toNat = k by omega])
      clear hz
      go_wp2_with fail
      go_ret
      exact ⟨ret_int (by rw [hv0.out]; omega), rfl⟩

end Go.Proofs.YtahdecppngemeaaDoor
