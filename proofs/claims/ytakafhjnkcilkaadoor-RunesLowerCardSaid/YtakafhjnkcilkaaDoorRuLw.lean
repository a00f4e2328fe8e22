/-
  The walk of the law RunesLower.
-/
import Derived.Test.YtakafhjnkcilkaaDoorRuR
import Derived.Test.YtakafhjnkcilkaaDoorRuO
namespace Go.Proofs.YtakafhjnkcilkaaDoor
open Go.RowKit

theorem low_at (s x : ByteArray) (hx : Ru.lowS s = x) (k : Nat) (h : k < s.size) (h' : k < x.size) : (x[k].toNat : Int) = Ru.lowI (s[k].toNat : Int) := by
  rw [← Ru.bs_get x k h', ← Ru.bs_get s k h, ← hx, Ru.bs_low, Ru.g_map (by rw [Ru.bs_len]; exact h)]

set_option maxHeartbeats 4000000 in
set_option maxRecDepth 100000 in
theorem runesLower_walk (s : ByteArray) (w : World) (hs : s.size ≤ maxLen) (hT : Tab w.heap.size w) :
    Calls Tryd.prog 7 #[.string s] w (Yes w) := by
  unfold maxLen at hs
  have CA := awake_is
  have HT := Lib.hid hT
  clear hT
  by_cases h2 : s.size ≤ 2000
  · obtain ⟨x, hx⟩ : ∃ x, Ru.lowS s = x := ⟨_, rfl⟩
    have hsz : x.size = s.size := by rw [← hx, Ru.lowS_size]
    have C1 : Hid (Calls Tryd.prog 27 #[.string s] w fun e w' => e = .returned (.string x) ∧ Below w.heap.size w w') := Lib.hid (by rw [← hx]; exact lower_any s w (by omega))
    have C2 : Hid (∀ w1 : World, Calls Tryd.prog 27 #[.string x] w1 fun e w' => e = .returned (.string x) ∧ Below w1.heap.size w1 w') := Lib.hid fun w1 => by
      have := lower_any x w1 (by omega)
      have e : Ru.lowS x = x := by rw [← hx, Ru.lowS_low]
      rwa [e] at this
    have hlen : ((x.size : Int) != (s.size : Int)) = false := Ru.ne_f (by omega)
    have HX := Lib.hid hx
    have q1 : x.size ≤ s.size := by omega
    have q2 : s.size ≤ x.size := by omega
    clear hx hsz
    go_enter Tryd.func7, Tryd.ntmps7
    go_wp2_with (first | (go_at_call 27; (first | ((with_reducible refine (C1.out).mono ?_); rintro e w1 ⟨rfl, b1⟩) | ((with_reducible refine (C2.out _).mono ?_); rintro e w2 ⟨rfl, b2⟩))))
    clear hlen C1 C2
    go_loop [25] (fun v => ∃ k : Nat, k ≤ s.size ∧ v = .int .i64 k) (fun v => s.size - (RowKit.intOf v).toNat)
    case atStart => exact ⟨0, Nat.zero_le _, rfl⟩
    case round =>
      obtain ⟨k, hk, rfl⟩ := hrel
      by_cases hlt : k < s.size
      · have hltx : k < x.size := by omega
        have hlow := low_at s x HX.out k hlt hltx
        have y1 := (s[k]'hlt).toNat_lt
        by_cases u1 : 65 ≤ ((s[k]'hlt).toNat : Int)
        · by_cases u2 : ((s[k]'hlt).toNat : Int) ≤ 90
          · have hne : (((x[k]'hltx).toNat : Int) != ((s[k]'hlt).toNat : Int) + 32) = false := Ru.ne_f (by rw [hlow]; unfold Ru.lowI; rw [if_pos ⟨u1, u2⟩])
            clear hlow HX
            go_wp2_with fail
            go_round
            case rel => exact ⟨k + 1, by omega, by go_num⟩
            case measure => simp [RowKit.intOf]; omega
          · have hne : (((x[k]'hltx).toNat : Int) != ((s[k]'hlt).toNat : Int)) = false := Ru.ne_f (by rw [hlow]; unfold Ru.lowI; rw [if_neg (by omega)])
            clear hlow HX
            go_wp2_with fail
            go_round
            case rel => exact ⟨k + 1, by omega, by go_num⟩
            case measure => simp [RowKit.intOf]; omega
        · have hne : (((x[k]'hltx).toNat : Int) != ((s[k]'hlt).toNat : Int)) = false := Ru.ne_f (by rw [hlow]; unfold Ru.lowI; rw [if_neg (by omega)])
          clear hlow HX
          go_wp2_with fail
          go_round
          case rel => exact ⟨k + 1, by omega, by go_num⟩
          case measure => simp [RowKit.intOf]; omega
      · go_wp2_with (go_at_call 10; ((with_reducible refine (CA.out _ (HT.out.next (below_next b1 b2))).mono ?_); rintro e w5 ⟨rfl, b5⟩))
        go_ret
        exact ⟨rfl, below_next (below_next b1 b2) b5⟩
  · go_enter Tryd.func7, Tryd.ntmps7
    go_wp2_with (go_at_call 10; ((with_reducible refine (CA.out _ HT.out).mono ?_); rintro e w5 ⟨rfl, b5⟩))
    go_ret
    exact ⟨rfl, b5⟩
end Go.Proofs.YtakafhjnkcilkaaDoor
