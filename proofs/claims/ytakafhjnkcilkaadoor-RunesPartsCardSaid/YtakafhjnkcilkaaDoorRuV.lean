/-
  The walk of the reference's Next: the first character.
-/
import Derived.Test.YtakafhjnkcilkaaDoorRuU
namespace Go.Proofs.YtakafhjnkcilkaaDoor
open Go.RowKit

namespace Ru
theorem val_sp (l : List Int) (L : Nat) (hL : (L : Int) = need (g l 0)) (h0 : L ≠ 0) (hc : cls L (g l 0)) (ho : okC L l (L - 1)) : spLo L l (base (g l 0)) (L - 1) = val (g l 0) (g l 1) (g l 2) (g l 3) := by
  have hcase := need_case (g l 0)
  obtain ⟨s1, -⟩ := sp_two L l (base (g l 0))
  obtain ⟨s3, -⟩ := sp_three L l (base (g l 0))
  obtain ⟨s5, -⟩ := sp_four L l (base (g l 0))
  have ok := (okC_three L l (L - 1) (by omega)).1 ho
  unfold cls at hc
  rcases (show L = 2 ∨ L = 3 ∨ L = 4 by omega) with rfl | rfl | rfl
  · have hx : base (g l 0) = g l 0 - 192 := by unfold base; omega
    unfold val
    rw [← hL, show (2 : Nat) - 1 = 1 from rfl, s1, if_pos (by omega), hx]
    rw [if_pos (by omega)]
    omega
  · have hx : base (g l 0) = g l 0 - 224 := by unfold base; omega
    unfold val
    rw [← hL, show (3 : Nat) - 1 = 2 from rfl, s3, if_pos (by omega), s1, if_pos (by omega), hx]
    rw [if_neg (by omega), if_pos (by omega)]
    omega
  · have hx : base (g l 0) = g l 0 - 240 := by unfold base; omega
    unfold val
    rw [← hL, show (4 : Nat) - 1 = 3 from rfl, s5, if_pos (by omega), s3, if_pos (by omega), s1, if_pos (by omega), hx]
    rw [if_neg (by omega), if_neg (by omega)]
    omega

def res (s m v : Int) : Int := if s ≠ 0 ∧ m = s then v else 65533
def wid (m : Int) : Int := if m = 0 then 1 else m
theorem res_yes {s m v : Int} (h : s ≠ 0 ∧ m = s) : res s m v = v := if_pos h
theorem res_no {s m v : Int} (h : ¬ (s ≠ 0 ∧ m = s)) : res s m v = 65533 := if_neg h
/-- what the longest beginning is so far, ahead of length L -/
def BestOut (s m L x : Int) : Prop := (s < L → (x = m ∨ (m = 0 ∧ x = 1)) ∧ (s ≠ 0 → m < s)) ∧ (¬ s < L → x = 1) ∧ 1 ≤ x ∧ x ≤ 4
/-- .. of the first K - 1 bytes -/
def BestIn (s m n L K x : Int) : Prop := (L = s → ((K = 1 ∧ x = 1) ∨ (2 ≤ K ∧ x = K - 1)) ∧ K - 1 ≤ m ∧ K ≤ L) ∧ (L ≠ s → K = 1 ∧ BestOut s m L x) ∧ 1 ≤ K ∧ K ≤ n + 1 ∧ 1 ≤ x ∧ x ≤ 4
end Ru

/-- at the head of the loop over lengths, and over places -/
def NextOut (s m : Int) (v4 v5 : Value) : Prop := ∃ (L : Nat) (x : Int), 2 ≤ L ∧ L ≤ 5 ∧ v5 = .int .i64 L ∧ v4 = .int .i64 x ∧ Hid (Ru.BestOut s m L x)
def NextIn (s m : Int) (n L : Nat) (v4 v6 : Value) : Prop := ∃ (K : Nat) (x : Int), v6 = .int .i64 K ∧ v4 = .int .i64 x ∧ 1 ≤ K ∧ K ≤ 5 ∧ K ≤ n + 1 ∧ 1 ≤ x ∧ x ≤ 4 ∧ Hid (Ru.BestIn s m n L K x)
/-- what a span tells first -/
def FirstIs (v : Int) (w : World) (e : Ending) (w' : World) : Prop := ∃ h : Int, e = .returned (.tuple #[.int .i64 v, .int .i64 h]) ∧ w = w'

set_option maxHeartbeats 4000000 in
set_option maxRecDepth 100000 in
theorem next_high (n : Nat) (b off cap : Nat) (w : World) (s m v : Int) (h1 : 1 ≤ n) (hm : n ≤ 9223372036854775807) (hcap : n ≤ cap) (a : Int) (ha : 128 ≤ a ∧ a < 256) (h0 : w.cell? ⟨b, off, none⟩ = some (.int .u8 a))
    (hs : s = 0 ∨ s = 2 ∨ s = 3 ∨ s = 4) (hmb : 0 ≤ m ∧ m ≤ s ∧ m ≤ n) (hm1 : s ≠ 0 → 1 ≤ m)
    (CB : Hid (∀ K L : Nat, 1 ≤ K → K ≤ L → K ≤ n → 2 ≤ L → L ≤ 4 → Calls Tryd.prog 39 #[.slice (some ⟨b, off, none⟩) K cap, .int .i64 L] w fun e w' => e = .returned (.bool (decide ((L : Int) = s ∧ (K : Int) ≤ m))) ∧ w = w'))
    (CS : Hid (∀ L : Nat, 2 ≤ L → (L : Int) = s → m = s → Calls Tryd.prog 40 #[.slice (some ⟨b, off, none⟩) L cap, .int .i64 L] w (FirstIs v w))) :
    Calls Tryd.prog 31 #[.slice (some ⟨b, off, none⟩) n cap] w fun e w' => e = .returned (.tuple #[.int .i64 (Ru.res s m v), .int .i64 (Ru.wid m)]) ∧ w = w' := by
  have hna : ¬ a < 128 := by omega
  have HM := Lib.hid (And.intro hs (And.intro hmb hm1))
  clear hs hmb hm1
  go_enter Tryd.func31, Tryd.ntmps31
  go_wp2_with fail
  go_loop [4, 5] (fun v4 v5 => NextOut s m v4 v5) (fun _ v5 => 5 - (RowKit.intOf v5).toNat)
  case atStart => exact ⟨2, 1, by omega, by omega, rfl, rfl, Lib.hid (by have := HM.out; unfold Ru.BestOut; omega)⟩
  case round =>
    obtain ⟨L, x, L1, L2, rfl, rfl, HO⟩ := hrel
    by_cases hL : L ≤ 4
    · go_wp2_with fail
      go_loop [4, 6] (fun v4 v6 => NextIn s m n L v4 v6) (fun _ v6 => L + 1 - (RowKit.intOf v6).toNat)
      case atStart => exact ⟨1, x, rfl, rfl, by omega, by omega, by omega, by have := HO.out; unfold Ru.BestOut at this; omega, by have := HO.out; unfold Ru.BestOut at this; omega, Lib.hid (by have := HO.out; have := HM.out; unfold Ru.BestOut Ru.BestIn at *; unfold Ru.BestOut; omega)⟩
      case round =>
        obtain ⟨K, y, rfl, rfl, k1, k2, k3, y1, y2, HI⟩ := hrel
        by_cases hK : K ≤ L ∧ K ≤ n
        · obtain ⟨g1, g2⟩ := hK
          have CK := CB.out K L k1 g1 g2 L1 hL
          by_cases hc : (L : Int) = s ∧ (K : Int) ≤ m
          · rw [decide_eq_true hc] at CK
            by_cases hKL : K = L
            · subst hKL
              have hms : m = s := by have := HM.out; omega
              have CSK := Lib.hid (CS.out K L1 hc.1 hms)
              have eK : ((K : Int) == (K : Int)) = true := Ru.eq_t rfl
              have HC := Lib.hid (And.intro hc hms)
              have CK' := Lib.hid CK
              clear CK CB CS hc hms
              go_wp2_with (first | (go_at_call 39; ((with_reducible refine (CK'.out).mono ?_); rintro e w' ⟨rfl, rfl⟩)) | (go_at_call 40; ((with_reducible refine (CSK.out).mono ?_); rintro e w' ⟨h, rfl, rfl⟩)))
              go_ret2
              exact ⟨ret_two (Ru.res_yes (by have h1 := HC.out; have h2 := HM.out; omega)).symm (by have h1 := HC.out; have h2 := HM.out; unfold Ru.wid; omega), rfl⟩
            · have eK : ((K : Int) == (L : Int)) = false := Ru.eq_f (by omega)
              have HC := Lib.hid hc
              have CK' := Lib.hid CK
              clear CK CB CS hc
              have hlt : K < L := by omega
              go_wp2_with (go_at_call 39; ((with_reducible refine (CK'.out).mono ?_); rintro e w' ⟨rfl, rfl⟩))
              go_round
              case rel => exact ⟨K + 1, max y K, by go_num, rfl, by omega, by omega, by omega, by omega, by omega, Lib.hid (by have h1 := HC.out; have h2 := HM.out; have h3 := HI.out; unfold Ru.BestIn Ru.BestOut at *; omega)⟩
              case measure => simp [RowKit.intOf]; omega
          · rw [decide_eq_false hc] at CK
            have HC := Lib.hid hc
            have CK' := Lib.hid CK
            clear CK CB CS hc
            go_wp2_with (go_at_call 39; ((with_reducible refine (CK'.out).mono ?_); rintro e w' ⟨rfl, rfl⟩))
            go_round
            case rel => exact ⟨L + 1, y, by omega, by omega, by go_num, rfl, Lib.hid (by have h1 := HC.out; have h2 := HM.out; have h3 := HI.out; unfold Ru.BestIn Ru.BestOut at *; omega)⟩
            case measure => simp [RowKit.intOf]; omega
        · clear CB CS
          by_cases g1 : K ≤ L
          all_goals
            go_wp2_with fail
            go_round
            case rel => exact ⟨L + 1, y, by omega, by omega, by go_num, rfl, Lib.hid (by have h2 := HM.out; have h3 := HI.out; unfold Ru.BestIn Ru.BestOut at *; omega)⟩
            case measure => simp [RowKit.intOf]; omega
    · obtain rfl : L = 5 := by omega
      clear CB CS
      go_wp2_with fail
      go_ret2
      exact ⟨ret_two (Ru.res_no (by have h2 := HM.out; have h3 := HO.out; unfold Ru.BestOut at h3; omega)).symm (by have h2 := HM.out; have h3 := HO.out; unfold Ru.BestOut at h3; unfold Ru.wid; omega), rfl⟩
end Go.Proofs.YtakafhjnkcilkaaDoor
