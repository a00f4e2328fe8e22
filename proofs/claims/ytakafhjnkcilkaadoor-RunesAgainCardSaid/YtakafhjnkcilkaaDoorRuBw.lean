/-
  The walks of the laws RunesBack and RunesAgain.
-/
import Derived.Test.YtakafhjnkcilkaaDoorRuR
namespace Go.Proofs.YtakafhjnkcilkaaDoor
open Go.RowKit

namespace Ru
/-- a character that is itself, written and read -/
def okB (c : Int) : Prop := Is c ∧ c ≠ 0 ∧ c ≠ 12 ∧ c ≠ 13
end Ru
theorem write_told (l : List Int) (A : Option Addr) (cap : Nat) (w : World) (hm : l.length ≤ 65536) (hcap : l.length ≤ cap) (hr : ∀ c ∈ l, -2147483648 ≤ c ∧ c ≤ 2147483647) (hA : Bs w w.heap.size .i32 A l) :
    Calls Tryd.prog 15 #[.slice A l.length cap] w (Told .u8 (Ru.wr l) w) := (write_any l A cap w hm hcap hr hA).mono fun _ _ h => told h
/-- what was written is read -/
theorem back_told (l : List Int) (hl : ∀ c ∈ l, Ru.okB c) (A : Option Addr) (cap : Nat) (w : World) (hm : (Ru.wr l).length ≤ 65536) (hcap : (Ru.wr l).length ≤ cap) (hT : Tab w.heap.size w) (hA : Bs w w.heap.size .u8 A (Ru.wr l)) :
    Calls Tryd.prog 13 #[.slice A (Ru.wr l).length cap] w (Told .i32 l w) :=
  (read_told (Ru.wr l) (Ru.wr_by l) A cap w hm hcap hT hA).mono fun _ _ h => by
    have e : Ru.rd (Ru.wr l) = l := Ru.rd_enc l hl
    rw [e] at h
    exact told h

def BackAt (l : List Int) (v11 : Value) : Prop := ∃ k : Nat, k ≤ l.length ∧ v11 = .int .i64 k ∧ Hid (∀ j, j < k → Ru.okB (Ru.g l j))

theorem okB_all {l : List Int} (h : ∀ j, j < l.length → Ru.okB (Ru.g l j)) : ∀ c ∈ l, Ru.okB c := fun c hc => by
  obtain ⟨i, hi, rfl⟩ := List.getElem_of_mem hc
  rw [← Ru.g_eq hi]
  exact h i hi

set_option maxHeartbeats 4000000 in
set_option maxRecDepth 100000 in
theorem runesBack_walk (l : List Int) (hr : ∀ c ∈ l, -2147483648 ≤ c ∧ c ≤ 2147483647) (A : Option Addr) (cap : Nat) (w : World) (hm : l.length ≤ cap) (hT : Tab w.heap.size w) (hA : Bs w w.heap.size .i32 A l) :
    Calls Tryd.prog 5 #[.slice A l.length cap] w (Yes w) := by
  have CA := awake_is
  have HT := Lib.hid hT
  have HA := Lib.hid hA
  have HR := Lib.hid hr
  clear hT hA hr
  by_cases h2 : l.length ≤ 500
  · have hw1 := Ru.wr_len l
    have hw2 : (Ru.wr l).length ≤ 65536 := by omega
    have hl1 : l.length ≤ 65536 := by omega
    have C1 : Hid (Calls Tryd.prog 15 #[.slice A l.length cap] w (Told .u8 (Ru.wr l) w)) := Lib.hid (write_told l A cap w hl1 hm HR.out HA.out)
    have CI := ints_is
    have CS := same_yes
    by_cases h0 : 0 < l.length
    · obtain ⟨b, off, rfl, hb, hp⟩ := HA.out h0
      have HP := Lib.hid hp
      clear hp
      go_enter Tryd.func5, Tryd.ntmps5
      go_wp2_with fail
      go_loop [11] (fun v11 => BackAt l v11) (fun v11 => l.length - (RowKit.intOf v11).toNat)
      case atStart => exact ⟨0, Nat.zero_le _, rfl, Lib.hid (fun j hj => by omega)⟩
      case round =>
        obtain ⟨k, hk, rfl, HE⟩ := hrel
        by_cases hlt : k < l.length
        · have hcell := HP.out k hlt
          have HK : Hid (Ru.okB (Ru.g l k) → ∀ j, j < k + 1 → Ru.okB (Ru.g l j)) := Lib.hid fun h j hj => by
            by_cases e : j = k
            · subst e; exact h
            · exact HE.out j (by omega)
          have hrx := HR.out _ (List.getElem_mem hlt)
          rw [← Ru.g_eq hlt] at hrx
          obtain ⟨r1, r2⟩ := hrx
          generalize Ru.g l k = x at *
          clear C1 CI CS HE HP
          cases his : Ru.isB x
          · go_wp2_with (first | (go_at_call 17; ((with_reducible refine (ris_any _ _).mono ?_); rintro e w' ⟨rfl, rfl⟩)) | (go_at_call 10; ((with_reducible refine (CA.out _ HT.out).mono ?_); rintro e w5 ⟨rfl, b5⟩)))
            go_ret
            exact ⟨rfl, b5⟩
          · by_cases x0 : x = 0
            · subst x0
              go_wp2_with (first | (go_at_call 17; ((with_reducible refine (ris_any _ _).mono ?_); rintro e w' ⟨rfl, rfl⟩)) | (go_at_call 10; ((with_reducible refine (CA.out _ HT.out).mono ?_); rintro e w5 ⟨rfl, b5⟩)))
              go_ret
              exact ⟨rfl, b5⟩
            · by_cases x1 : x = 12
              · subst x1
                go_wp2_with (first | (go_at_call 17; ((with_reducible refine (ris_any _ _).mono ?_); rintro e w' ⟨rfl, rfl⟩)) | (go_at_call 10; ((with_reducible refine (CA.out _ HT.out).mono ?_); rintro e w5 ⟨rfl, b5⟩)))
                go_ret
                exact ⟨rfl, b5⟩
              · by_cases x2 : x = 13
                · subst x2
                  go_wp2_with (first | (go_at_call 17; ((with_reducible refine (ris_any _ _).mono ?_); rintro e w' ⟨rfl, rfl⟩)) | (go_at_call 10; ((with_reducible refine (CA.out _ HT.out).mono ?_); rintro e w5 ⟨rfl, b5⟩)))
                  go_ret
                  exact ⟨rfl, b5⟩
                · have HX := Lib.hid (HK.out ⟨Ru.isB_iff.1 his, x0, x1, x2⟩)
                  have e0 := Ru.eq_f x0
                  have e1 := Ru.eq_f x1
                  have e2 := Ru.eq_f x2
                  clear x0 x1 x2 HK
                  go_wp2_with (go_at_call 17; ((with_reducible refine (ris_any _ _).mono ?_); rintro e w' ⟨rfl, rfl⟩))
                  go_round
                  case rel => exact ⟨k + 1, by omega, by go_num, HX⟩
                  case measure => simp [RowKit.intOf]; omega
        · obtain rfl : k = l.length := by omega
          have CB : Hid (∀ (A1 : Option Addr) (c1 : Nat) (w1 : World), (Ru.wr l).length ≤ c1 → Tab w1.heap.size w1 → Bs w1 w1.heap.size .u8 A1 (Ru.wr l) → Calls Tryd.prog 13 #[.slice A1 (Ru.wr l).length c1] w1 (Told .i32 l w1)) := Lib.hid fun A1 c1 w1 h1 h2 h3 => back_told l (okB_all HE.out) A1 c1 w1 hw2 h1 h2 h3
          clear HP HE
          go_wp2_with (first | (go_at_call 15; ((with_reducible refine (C1.out).mono ?_); rintro e w1 ⟨A1, c1, rfl, k1, B1, b1⟩)) | (go_at_call 13; ((with_reducible refine (CB.out _ _ _ k1 (HT.out.next b1) B1).mono ?_); rintro e w2 ⟨A2, c2, rfl, k2, B2, b2⟩)) | (go_at_call 12; (first | ((with_reducible refine (CI.out _ A2 c2 _ hl1 k2 HR.out B2).mono ?_); rintro e w3 ⟨A3, c3, rfl, k3, B3, b3⟩) | ((with_reducible refine (CI.out _ _ _ _ hl1 hm HR.out (HA.out.next (below_next (below_next b1 b2) b3))).mono ?_); rintro e w4 ⟨A4, c4, rfl, k4, B4, b4⟩))) | (go_at_call 11; ((with_reducible refine (CS.out _ _ _ _ _ _ hl1 (B3.next b4) B4).mono ?_); rintro e w5 ⟨rfl, b5⟩)) | (go_at_call 10; ((with_reducible refine (CA.out _ (HT.out.next (below_next (below_next (below_next (below_next b1 b2) b3) b4) b5))).mono ?_); rintro e w6 ⟨rfl, b6⟩)))
          go_ret
          exact ⟨rfl, below_next (below_next (below_next (below_next (below_next b1 b2) b3) b4) b5) b6⟩
    · have CB : Hid (∀ (A1 : Option Addr) (c1 : Nat) (w1 : World), (Ru.wr l).length ≤ c1 → Tab w1.heap.size w1 → Bs w1 w1.heap.size .u8 A1 (Ru.wr l) → Calls Tryd.prog 13 #[.slice A1 (Ru.wr l).length c1] w1 (Told .i32 l w1)) := Lib.hid fun A1 c1 w1 h1 h2 h3 => back_told l (okB_all (fun j hj => absurd hj (by omega))) A1 c1 w1 hw2 h1 h2 h3
      go_enter Tryd.func5, Tryd.ntmps5
      go_wp2_with fail
      go_loop [11] (fun v11 => v11 = .int .i64 0) (fun _ => 0)
      case atStart => rfl
      case round =>
        subst hrel
        go_wp2_with (first | (go_at_call 15; ((with_reducible refine (C1.out).mono ?_); rintro e w1 ⟨A1, c1, rfl, k1, B1, b1⟩)) | (go_at_call 13; ((with_reducible refine (CB.out _ _ _ k1 (HT.out.next b1) B1).mono ?_); rintro e w2 ⟨A2, c2, rfl, k2, B2, b2⟩)) | (go_at_call 12; (first | ((with_reducible refine (CI.out _ A2 c2 _ hl1 k2 HR.out B2).mono ?_); rintro e w3 ⟨A3, c3, rfl, k3, B3, b3⟩) | ((with_reducible refine (CI.out _ _ _ _ hl1 hm HR.out (HA.out.next (below_next (below_next b1 b2) b3))).mono ?_); rintro e w4 ⟨A4, c4, rfl, k4, B4, b4⟩))) | (go_at_call 11; ((with_reducible refine (CS.out _ _ _ _ _ _ hl1 (B3.next b4) B4).mono ?_); rintro e w5 ⟨rfl, b5⟩)) | (go_at_call 10; ((with_reducible refine (CA.out _ (HT.out.next (below_next (below_next (below_next (below_next b1 b2) b3) b4) b5))).mono ?_); rintro e w6 ⟨rfl, b6⟩)))
        go_ret
        exact ⟨rfl, below_next (below_next (below_next (below_next (below_next b1 b2) b3) b4) b5) b6⟩
  · clear HA HR
    go_enter Tryd.func5, Tryd.ntmps5
    go_wp2_with (go_at_call 10; ((with_reducible refine (CA.out _ HT.out).mono ?_); rintro e w5 ⟨rfl, b5⟩))
    go_ret
    exact ⟨rfl, b5⟩
end Go.Proofs.YtakafhjnkcilkaaDoor
