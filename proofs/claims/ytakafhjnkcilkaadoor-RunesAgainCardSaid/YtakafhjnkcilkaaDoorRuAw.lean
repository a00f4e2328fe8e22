/-
  The walk of the law RunesAgain.
-/
import Derived.Test.YtakafhjnkcilkaaDoorRuBw
namespace Go.Proofs.YtakafhjnkcilkaaDoor
open Go.RowKit

/-- a slice that reads as numbers, of which there is one at least -/
def ToldAt (k : IntKind) (l : List Int) (w : World) (e : Ending) (w' : World) : Prop :=
  ∃ (b off cap : Nat), e = .returned (.slice (some ⟨b, off, none⟩) l.length cap) ∧ l.length ≤ cap ∧ (∀ j, j < l.length → w'.cell? ⟨b, off + j, none⟩ = some (.int k (Ru.g l j))) ∧ Bs w' w'.heap.size k (some ⟨b, off, none⟩) l ∧ Below w.heap.size w w'
theorem told_at {k : IntKind} {l : List Int} {w : World} {e : Ending} {w' : World} (h : Told k l w e w') (h0 : 0 < l.length) : ToldAt k l w e w' := by
  obtain ⟨A, cap, rfl, hc, hB, hb⟩ := h
  obtain ⟨b, off, rfl, _, hp⟩ := hB h0
  exact ⟨b, off, cap, rfl, hc, hp, hB, hb⟩

set_option maxHeartbeats 4000000 in
set_option maxRecDepth 100000 in
theorem runesAgain_walk (l : List Int) (hl : Ru.By l) (A : Option Addr) (cap : Nat) (w : World) (hm : l.length ≤ cap) (hT : Tab w.heap.size w) (hA : Bs w w.heap.size .u8 A l) :
    Calls Tryd.prog 8 #[.slice A l.length cap] w (Yes w) := by
  have CA := awake_is
  have HT := Lib.hid hT
  by_cases h2 : l.length ≤ 2000
  · have C1 := (read_told l hl A cap w (by omega) hm hT hA).mono fun _ _ h => told h
    have hr0 := Ru.rd_len' l
    have hok := Ru.rd_ok hl
    clear hT hA hl
    have HR := Lib.hid (Ru.ok_range hok)
    have HK := Lib.hid hok
    have hw1 := Ru.wr_len (Ru.rd l)
    have hw2 : (Ru.wr (Ru.rd l)).length ≤ 65536 := by omega
    have hr1 : (Ru.rd l).length ≤ 65536 := by omega
    have CW : Hid (∀ (A1 : Option Addr) (c1 : Nat) (w1 : World), (Ru.rd l).length ≤ c1 → Bs w1 w1.heap.size .i32 A1 (Ru.rd l) → Calls Tryd.prog 15 #[.slice A1 (Ru.rd l).length c1] w1 (Told .u8 (Ru.wr (Ru.rd l)) w1)) := Lib.hid fun A1 c1 w1 h1 h2 => write_told (Ru.rd l) A1 c1 w1 hr1 h1 HR.out h2
    have CB : Hid (∀ (A1 : Option Addr) (c1 : Nat) (w1 : World), (Ru.wr (Ru.rd l)).length ≤ c1 → Tab w1.heap.size w1 → Bs w1 w1.heap.size .u8 A1 (Ru.wr (Ru.rd l)) → Calls Tryd.prog 13 #[.slice A1 (Ru.wr (Ru.rd l)).length c1] w1 (Told .i32 (Ru.rd l) w1)) := Lib.hid fun A1 c1 w1 h1 h2 h3 => back_told (Ru.rd l) hok A1 c1 w1 hw2 h1 h2 h3
    have CI := ints_is
    have CS := same_yes
    clear hok
    generalize Ru.rd l = r at *
    by_cases h0 : 0 < r.length
    · have C1' := Lib.hid (C1.mono fun _ _ h => told_at h h0)
      clear C1
      go_enter Tryd.func8, Tryd.ntmps8
      go_wp2_with (go_at_call 13; ((with_reducible refine (C1'.out).mono ?_); rintro e w1 ⟨b, off, c1, rfl, k1, hp, B1, b1⟩))
      have HP := Lib.hid hp
      have HB1 := Lib.hid B1
      clear hp B1 C1'
      go_loop [14] (fun v14 => ∃ k : Nat, k ≤ r.length ∧ v14 = .int .i64 k) (fun v14 => r.length - (RowKit.intOf v14).toNat)
      case atStart => exact ⟨0, Nat.zero_le _, rfl⟩
      case round =>
        obtain ⟨k, hk, rfl⟩ := hrel
        by_cases hlt : k < r.length
        · have hcell := HP.out k hlt
          have hrx := HR.out _ (List.getElem_mem hlt)
          have hkx := HK.out _ (List.getElem_mem hlt)
          rw [← Ru.g_eq hlt] at hrx hkx
          obtain ⟨r1, r2⟩ := hrx
          obtain ⟨x3, x0, x1, x2⟩ := hkx
          have his := Ru.isB_iff.2 x3
          have e0 := Ru.eq_f x0
          have e1 := Ru.eq_f x1
          have e2 := Ru.eq_f x2
          clear x0 x1 x2 x3
          generalize Ru.g r k = x at *
          clear CI CS HP CW CB
          go_wp2_with (go_at_call 17; ((with_reducible refine (ris_any _ _).mono ?_); rintro e w' ⟨rfl, rfl⟩))
          go_round
          case rel => exact ⟨k + 1, by omega, by go_num⟩
          case measure => simp [RowKit.intOf]; omega
        · clear HP
          go_wp2_with (first | (go_at_call 15; ((with_reducible refine (CW.out _ _ _ k1 HB1.out).mono ?_); rintro e w2 ⟨A2, c2, rfl, k2, B2, b2⟩)) | (go_at_call 13; ((with_reducible refine (CB.out _ _ _ k2 (HT.out.next (below_next b1 b2)) B2).mono ?_); rintro e w3 ⟨A3, c3, rfl, k3, B3, b3⟩)) | (go_at_call 12; (first | ((with_reducible refine (CI.out _ A3 c3 _ hr1 k3 HR.out B3).mono ?_); rintro e w4 ⟨A4, c4, rfl, k4, B4, b4⟩) | ((with_reducible refine (CI.out _ _ _ _ hr1 k1 HR.out (HB1.out.next (below_next (below_next b2 b3) b4))).mono ?_); rintro e w5 ⟨A5, c5, rfl, k5, B5, b5⟩))) | (go_at_call 11; ((with_reducible refine (CS.out _ _ _ _ _ _ hr1 (B4.next b5) B5).mono ?_); rintro e w6 ⟨rfl, b6⟩)) | (go_at_call 10; ((with_reducible refine (CA.out _ (HT.out.next (below_next (below_next (below_next (below_next (below_next b1 b2) b3) b4) b5) b6))).mono ?_); rintro e w7 ⟨rfl, b7⟩)))
          go_ret
          exact ⟨rfl, below_next (below_next (below_next (below_next (below_next (below_next b1 b2) b3) b4) b5) b6) b7⟩
    · have C1' := Lib.hid C1
      clear C1
      go_enter Tryd.func8, Tryd.ntmps8
      go_wp2_with (go_at_call 13; ((with_reducible refine (C1'.out).mono ?_); rintro e w1 ⟨A1, c1, rfl, k1, B1, b1⟩))
      have HB1 := Lib.hid B1
      clear B1 C1'
      go_loop [14] (fun v14 => v14 = .int .i64 0) (fun _ => 0)
      case atStart => rfl
      case round =>
        subst hrel
        go_wp2_with (first | (go_at_call 15; ((with_reducible refine (CW.out _ _ _ k1 HB1.out).mono ?_); rintro e w2 ⟨A2, c2, rfl, k2, B2, b2⟩)) | (go_at_call 13; ((with_reducible refine (CB.out _ _ _ k2 (HT.out.next (below_next b1 b2)) B2).mono ?_); rintro e w3 ⟨A3, c3, rfl, k3, B3, b3⟩)) | (go_at_call 12; (first | ((with_reducible refine (CI.out _ A3 c3 _ hr1 k3 HR.out B3).mono ?_); rintro e w4 ⟨A4, c4, rfl, k4, B4, b4⟩) | ((with_reducible refine (CI.out _ _ _ _ hr1 k1 HR.out (HB1.out.next (below_next (below_next b2 b3) b4))).mono ?_); rintro e w5 ⟨A5, c5, rfl, k5, B5, b5⟩))) | (go_at_call 11; ((with_reducible refine (CS.out _ _ _ _ _ _ hr1 (B4.next b5) B5).mono ?_); rintro e w6 ⟨rfl, b6⟩)) | (go_at_call 10; ((with_reducible refine (CA.out _ (HT.out.next (below_next (below_next (below_next (below_next (below_next b1 b2) b3) b4) b5) b6))).mono ?_); rintro e w7 ⟨rfl, b7⟩)))
        go_ret
        exact ⟨rfl, below_next (below_next (below_next (below_next (below_next (below_next b1 b2) b3) b4) b5) b6) b7⟩
  · clear hT hA hl
    go_enter Tryd.func8, Tryd.ntmps8
    go_wp2_with (go_at_call 10; ((with_reducible refine (CA.out _ HT.out).mono ?_); rintro e w5 ⟨rfl, b5⟩))
    go_ret
    exact ⟨rfl, b5⟩
end Go.Proofs.YtakafhjnkcilkaaDoor
