/-
  The walk of the law TokenSpaces.
-/
import Derived.Test.YtppgklmliklkkaaDoorGu
import Derived.Test.YtppgklmliklkkaaDoorGy0
import Derived.Deep.Cut
import Derived.Deep.CutRange
import Derived.Deep.DeepCutAuto
import Derived.WalkSpells
import Derived.BigGuard
namespace Go.Proofs.YtppgklmliklkkaaDoor
open Go.RowKit

/-- what TokenSpaces asks of a token, and of the kind behind it -/
def SpcOk (t : Tk.Tok) (nx : Int) : Prop := Tk.TokOk t ∧ (t.1 = 1 → nx ≠ 1) ∧ (t.1 = 7 → nx = 1)
theorem spc_all {l : List Int} (i : Nat) (h : i < (Tk.scan l 0).length) : SpcOk (Tk.tk (Tk.scan l 0) i) (Tk.nk (Tk.scan l 0) i) := by
  have hg := Tk.scan_good l _ 0 (Nat.le_refl _) (Nat.zero_le _)
  have ha := Tk.adj_at _ i hg.1 h
  refine ⟨?_, ha.1, ha.2⟩
  rw [Tk.tk_eq h]
  exact hg.2.1 _ (List.getElem_mem h)

set_option maxHeartbeats 80000000 in
set_option maxRecDepth 100000 in
theorem tokenSpaces_walk (l : List Int) (hl : Ru.By l) (A : Option Addr) (cap : Nat) (w : World) (hm : l.length ≤ cap) (hT : UTab w.heap.size w) (hA : Bs w w.heap.size .u8 A l) :
    Calls Tryd.prog 3 #[.slice A l.length cap] w (Yes w) := by
  have CA : Hid (∀ w1, Below w.heap.size w w1 → Calls Tryd.prog 8 #[] w1 (Yes w1)) := Lib.hid fun w1 h => awake_any w1 (hT.next h)
  by_cases h1 : l.length ≤ 2000
  · have C1 := Lib.hid (scan_told l hl A cap w (by omega) hm hT hA)
    have hsl := (Tk.scan_good (Ru.rd l) _ 0 (Nat.le_refl _) (Nat.zero_le _)).2.2.2.2
    have hrl := Ru.rd_len' l
    have hts : (Tk.scan (Ru.rd l) 0).length ≤ l.length := by omega
    have HG : Hid (∀ i, i < (Tk.scan (Ru.rd l) 0).length → SpcOk (Tk.tk (Tk.scan (Ru.rd l) 0) i) (Tk.nk (Tk.scan (Ru.rd l) 0) i)) := Lib.hid fun i h => spc_all i h
    clear hl hT hA hsl hrl
    generalize Tk.scan (Ru.rd l) 0 = ts at *
    go_enter Tryd.func3, Tryd.ntmps3
    go_wp2_with (go_at_call 9; ((with_reducible refine (C1.out).mono ?_); rintro e w1 ⟨A1, c1, rfl, k1, B1, b1⟩))
    have HB1 := Lib.hid B1
    have HW1 := Lib.hid b1
    clear B1 b1
    go_loopw [20] (fun v20 wr => ∃ k : Nat, k ≤ ts.length ∧ v20 = .int .i64 k ∧ Hid (Below w1.heap.size w1 wr)) (fun v20 _ => ts.length - (RowKit.intOf v20).toNat)
    case atStart => exact ⟨0, Nat.zero_le _, rfl, Lib.hid (Below.refl _ _)⟩
    case round =>
      obtain ⟨k, hk, rfl, HB⟩ := hrel
      by_cases hlt : k < ts.length
      · obtain ⟨b, off, rfl, hb, hp⟩ := HB1.out.next HB.out (by omega)
        obtain ⟨p0, p1, p2⟩ := hp k hlt
        have hG := HG.out k hlt
        have hq : k + 1 < ts.length → wr.cell? ⟨b, off + (k + 1) * 3, none⟩ = some (.int .i64 (Tk.nk ts k)) := fun h => by
          have := (hp (k + 1) h).1
          unfold Tk.nk
          rw [if_pos h]
          exact this
        have hz : ¬ k + 1 < ts.length → Tk.nk ts k = 0 := fun h => by unfold Tk.nk; rw [if_neg h]
        have HQ := Lib.hid hq
        have HZ := Lib.hid hz
        clear hp hq hz
        generalize Tk.nk ts k = nx at *
        generalize Tk.tk ts k = t at *
        obtain ⟨kd, tx, nv⟩ := t
        simp only at p0 p1 p2
        have HGk := Lib.hid hG
        clear hG
        go_upto_if 29 with fail
        go_cut [7] (fun s7 wc => s7 = .int .i64 nx ∧ (wr.alloc (.cells #[.int .i64 kd, .string tx, .int .i64 nv] 29)) = wc)
        case first =>
          by_cases h2 : k + 1 < ts.length
          · have q0 := HQ.out h2
            go_wp2_with fail
            go_meet
            exact ⟨rfl, rfl⟩
          · have hz := HZ.out h2
            subst hz
            go_wp2_with fail
            go_meet
            exact ⟨rfl, rfl⟩
        case rest =>
          obtain ⟨rfl, rfl⟩ := hcut
          clear p0 p1 p2 HQ HZ
          obtain ⟨⟨g1, g2, g3, g4, g5⟩, g6, g7⟩ := HGk.out
          simp only at g1 g2 g3 g4 g5 g6 g7
          have HB2 := Lib.hid (HB.out.alloc HB.out.size (.cells #[.int .i64 kd, .string tx, .int .i64 nv] 29))
          clear HGk HB
          rcases (show kd = 1 ∨ (2 ≤ kd ∧ kd ≤ 5) ∨ kd = 6 ∨ kd = 7 ∨ (8 ≤ kd ∧ kd ≤ 9) ∨ kd = 10 ∨ (11 ≤ kd ∧ kd ≤ 13) ∨ (14 ≤ kd ∧ kd ≤ 16) by omega) with rfl | ⟨ka, kb⟩ | rfl | rfl | ⟨ka, kb⟩ | rfl | ⟨ka, kb⟩ | ⟨ka, kb⟩
          · have te := g4 (by decide) (by omega) (by omega)
            subst te
            have n1 := Ru.eq_f (g6 rfl)
            have n0 := g5 (by omega)
            subst n0
            clear g1 g2 g3 g4 g5 g6 g7
            go_wp2_with fail
            all_goals
              go_roundw
              case rel => exact ⟨k + 1, by omega, by go_num, HB2⟩
              case measure => simp [RowKit.intOf]; omega
          · have tne := g3 (by unfold Tk.nmd; apply decide_eq_true; omega)
            have n0 := g5 (by omega)
            subst n0
            have e1 := Ru.eq_f (show ¬ kd = 1 by omega)
            have e7 := Ru.eq_f (show ¬ kd = 7 by omega)
            have e10 := Ru.eq_f (show ¬ kd = 10 by omega)
            have d6 := Ru.ne_t (show ¬ kd = 6 by omega)
            have d7 := Ru.ne_t (show ¬ kd = 7 by omega)
            clear g1 g2 g3 g4 g5 g6 g7
            go_wp2_with fail
            all_goals
              go_roundw
              case rel => exact ⟨k + 1, by omega, by go_num, HB2⟩
              case measure => simp [RowKit.intOf]; omega
          · have n0 := g5 (by omega)
            subst n0
            clear g1 g2 g3 g4 g5 g6 g7
            go_wp2_with fail
            all_goals
              go_roundw
              case rel => exact ⟨k + 1, by omega, by go_num, HB2⟩
              case measure => simp [RowKit.intOf]; omega
          · have n7 := g7 rfl
            subst n7
            have n0 := g5 (by omega)
            subst n0
            clear g1 g2 g3 g4 g5 g6 g7
            go_wp2_with fail
            all_goals
              go_roundw
              case rel => exact ⟨k + 1, by omega, by go_num, HB2⟩
              case measure => simp [RowKit.intOf]; omega
          · have te := g4 (by unfold Tk.nmd; apply decide_eq_false; omega) (by omega) (by omega)
            subst te
            have e1 := Ru.eq_f (show ¬ kd = 1 by omega)
            have e7 := Ru.eq_f (show ¬ kd = 7 by omega)
            have e10 := Ru.eq_f (show ¬ kd = 10 by omega)
            have d6 := Ru.ne_t (show ¬ kd = 6 by omega)
            have d7 := Ru.ne_t (show ¬ kd = 7 by omega)
            clear g1 g2 g3 g4 g5 g6 g7
            by_cases n0 : nv = 0
            · subst n0
              go_wp2_with fail
              all_goals
                go_roundw
                case rel => exact ⟨k + 1, by omega, by go_num, HB2⟩
                case measure => simp [RowKit.intOf]; omega
            · have nn := Ru.ne_t n0
              go_wp2_with fail
              all_goals
                go_roundw
                case rel => exact ⟨k + 1, by omega, by go_num, HB2⟩
                case measure => simp [RowKit.intOf]; omega
          · have tne := g3 (by decide)
            clear g1 g2 g3 g4 g5 g6 g7
            by_cases n0 : nv = 0
            · subst n0
              go_wp2_with fail
              all_goals
                go_roundw
                case rel => exact ⟨k + 1, by omega, by go_num, HB2⟩
                case measure => simp [RowKit.intOf]; omega
            · have nn := Ru.ne_t n0
              go_wp2_with fail
              all_goals
                go_roundw
                case rel => exact ⟨k + 1, by omega, by go_num, HB2⟩
                case measure => simp [RowKit.intOf]; omega
          · have tne := g3 (by unfold Tk.nmd; apply decide_eq_true; omega)
            have n0 := g5 (by omega)
            subst n0
            have e1 := Ru.eq_f (show ¬ kd = 1 by omega)
            have e7 := Ru.eq_f (show ¬ kd = 7 by omega)
            have e10 := Ru.eq_f (show ¬ kd = 10 by omega)
            have d6 := Ru.ne_t (show ¬ kd = 6 by omega)
            have d7 := Ru.ne_t (show ¬ kd = 7 by omega)
            clear g1 g2 g3 g4 g5 g6 g7
            go_wp2_with fail
            all_goals
              go_roundw
              case rel => exact ⟨k + 1, by omega, by go_num, HB2⟩
              case measure => simp [RowKit.intOf]; omega
          · have te := g4 (by unfold Tk.nmd; apply decide_eq_false; omega) (by omega) (by omega)
            subst te
            have n0 := g5 (by omega)
            subst n0
            have e1 := Ru.eq_f (show ¬ kd = 1 by omega)
            have e7 := Ru.eq_f (show ¬ kd = 7 by omega)
            have e10 := Ru.eq_f (show ¬ kd = 10 by omega)
            have d6 := Ru.ne_t (show ¬ kd = 6 by omega)
            have d7 := Ru.ne_t (show ¬ kd = 7 by omega)
            clear g1 g2 g3 g4 g5 g6 g7
            go_wp2_with fail
            all_goals
              go_roundw
              case rel => exact ⟨k + 1, by omega, by go_num, HB2⟩
              case measure => simp [RowKit.intOf]; omega
      · obtain rfl : k = ts.length := by omega
        have hb3 : Below w.heap.size w wr := below_next HW1.out HB.out
        go_wp2_with (go_at_call 8; ((with_reducible refine (CA.out _ hb3).mono ?_); rintro e w4 ⟨rfl, b4⟩))
        go_ret
        exact ⟨rfl, below_next hb3 b4⟩
  · have h3 : 2000 < l.length := by omega
    clear hl hT hA h1
    go_enter Tryd.func3, Tryd.ntmps3
    go_wp2_with (go_at_call 8; ((with_reducible refine (CA.out _ (Below.refl _ _)).mono ?_); rintro e w4 ⟨rfl, b4⟩))
    go_ret
    exact ⟨rfl, b4⟩
end Go.Proofs.YtppgklmliklkkaaDoor
