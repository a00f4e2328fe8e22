/-
  The walk of the reference's Right.
-/
import Derived.Test.YtgcmjkimiakibaaGreatDoorGaw
import Derived.Test.YtgcmjkimiakibaaGreatDoorGar
import Derived.Deep.RegionWith
import Derived.RegionTactic
import Derived.Deep.RegionHeld3
namespace Go.Proofs.YtgcmjkimiakibaaGreatDoor
open Go.RowKit

theorem toList_eq {t : ByteArray} {l : List Int} (hl : Ru.By l) : (t.toList == (strOfNums l).toList) = decide (Ru.bs t = l) := by
  rw [Bool.eq_iff_iff, beq_iff_eq, decide_eq_true_iff]
  constructor
  · intro h
    have e2 := Ru.bs_str hl
    unfold Ru.bs at e2 ⊢
    rw [← Lib.toList_data] at e2 ⊢
    rw [← e2, h]
  · rintro rfl
    have : strOfNums (Ru.bs t) = t := Pr.bs_inj (Ru.bs_str (Ru.bs_by t))
    rw [this]
theorem by92 : Ru.By [92] := fun c hc => by rw [List.mem_singleton] at hc; omega
set_option maxHeartbeats 16000000 in
set_option maxRecDepth 100000 in
theorem rright_any (us : List Tk.Tok) (hF : Pr.Fair us) (b : Bool) (hb : b = true ↔ Pr.RightU us) (A : Option Addr) (cap : Nat) (w : World) (h : Ts w w.heap.size A us) :
    Calls Tryz.prog 7 #[.slice A us.length cap] w (Bo b w) := by
  have hm := hF.1
  have H := Lib.hid h
  have HF := Lib.hid hF.2
  have HBb := Lib.hid hb
  clear h hF hb
  go_enter Tryz.func7, Tryz.ntmps7
  go_wp2_with fail
  go_loopw [3] (fun v3 wr => ∃ k : Nat, k ≤ us.length ∧ v3 = .int .i64 k ∧ Hid (∀ j, j < k → Pr.OkAt us j) ∧ Hid (Below w.heap.size w wr)) (fun v3 _ => us.length - (RowKit.intOf v3).toNat)
  case atStart => exact ⟨0, Nat.zero_le _, rfl, Lib.hid (fun j hj => by omega), Lib.hid (Below.refl _ _)⟩
  case round =>
    obtain ⟨k, hk, rfl, HK, HB⟩ := hrel
    by_cases hlt : k < us.length
    · have HR := Lib.hid (H.out.next HB.out)
      obtain ⟨bb, off, rfl, hbb, hp⟩ := HR.out (by omega)
      obtain ⟨p0, p1, p2⟩ := hp k hlt
      have HP2 : Hid (∀ (h2 : k + 1 < us.length), wr.cell? ⟨bb, off + (k + 1) * 3, none⟩ = some (.int .i64 (Tk.tk us (k + 1)).1)) := Lib.hid fun h2 => (hp (k + 1) h2).1
      have hsz := HF.out k hlt
      have HOk : Hid (Pr.OkAt us k ↔ (Pr.OneU (Tk.tk us k) ∧ Pr.stnB (Tk.tk us k).1 (Tk.tk us k).2.1 (Pr.nxK us (k + 1)) = true)) := Lib.hid Iff.rfl
      have HNo : Hid (¬ Pr.OkAt us k → b = false) := Lib.hid fun h => Pr.b_false HBb.out (fun hr => h (hr.2 k hlt))
      have HYes : Hid (Pr.OkAt us k → ∀ j, j < k + 1 → Pr.OkAt us j) := Lib.hid fun h j hj => by
        by_cases hj2 : j < k
        · exact HK.out j hj2
        · obtain rfl : j = k := by omega
          exact h
      have HNx : Hid (Pr.nxK us (k + 1) = if k + 1 < us.length then some (Tk.tk us (k + 1)).1 else none) := Lib.hid rfl
      clear hp HBb HK HF
      generalize Pr.nxK us (k + 1) = nx at *
      generalize (Tk.tk us (k + 1)).1 = k1 at *
      generalize Tk.tk us k = u at *
      obtain ⟨kd, t, n⟩ := u
      simp only at p0 p1 p2 hsz HOk
      by_cases ho : Pr.OneU (kd, t, n)
      · have C := Lib.hid (rone_any kd n t (by omega) true (by simp [ho]) wr)
        have HOk2 : Hid (Pr.OkAt us k ↔ Pr.stnB kd t nx = true) := Lib.hid (HOk.out.trans ⟨fun h => h.2, fun h => ⟨ho, h⟩⟩)
        clear HOk ho
        by_cases hl : k + 1 < us.length
        · have hl1 : ((k : Int) + 1 == (us.length : Int)) = false := Ru.eq_f (by omega)
          have p3 := HP2.out hl
          have e := HNx.out
          rw [if_pos hl] at e
          subst e
          clear HP2 HNx
          by_cases g1 : kd = 1
          · subst g1
            by_cases h1 : k1 = 1
            · subst h1
              have HV : Hid (b = false) := Lib.hid (HNo.out (fun h => by have h2 := HOk2.out.1 h; cases h2))
              clear HYes HNo HOk2
              try clear g1
              try clear g7
              try clear g11
              try clear h1
              try clear ht
              unfold tokV at C
              go_upto_region 10 with (first | (go_at_call 12; ((with_reducible refine (C.out).mono ?_); rintro e w1 ⟨rfl, b1⟩; have HB1 := Lib.hid b1; have r0 := (b1.cell (p := ⟨bb, off + k * 3, none⟩) hbb).trans p0; have r1 := (b1.cell (p := ⟨bb, off + k * 3 + 1, none⟩) hbb).trans p1; have r3 := (b1.cell (p := ⟨bb, off + (k + 1) * 3, none⟩) hbb).trans p3; clear b1)))
              go_quiet (fail)
              go_wp2_with fail
              go_ret
              exact ⟨by rw [HV.out]; rfl, below_next HB.out (below_drewN HB1.out _)⟩
            · have f1 : (k1 == 1) = false := Ru.eq_f h1
              have f1' : (k1 != 1) = true := Ru.ne_t h1
              have HV := Lib.hid (HYes.out (HOk2.out.2 (by unfold Pr.stnB; rw [if_pos rfl]; exact decide_eq_true (by simpa using h1))))
              clear HYes HNo HOk2
              try clear g1
              try clear g7
              try clear g11
              try clear h1
              try clear ht
              unfold tokV at C
              go_upto_region 10 with (first | (go_at_call 12; ((with_reducible refine (C.out).mono ?_); rintro e w1 ⟨rfl, b1⟩; have HB1 := Lib.hid b1; have r0 := (b1.cell (p := ⟨bb, off + k * 3, none⟩) hbb).trans p0; have r1 := (b1.cell (p := ⟨bb, off + k * 3 + 1, none⟩) hbb).trans p1; have r3 := (b1.cell (p := ⟨bb, off + (k + 1) * 3, none⟩) hbb).trans p3; clear b1)))
              go_quiet (fail)
              go_wp2_with fail
              go_roundw
              case rel => exact ⟨k + 1, by omega, by go_num, HV, Lib.hid (below_next HB.out (below_drewN HB1.out _))⟩
              case measure => simp [RowKit.intOf]; omega
          · skip
            by_cases g7 : kd = 7
            · subst g7
              by_cases h1 : k1 = 1
              · subst h1
                have HV := Lib.hid (HYes.out (HOk2.out.2 (rfl)))
                clear HYes HNo HOk2
                try clear g1
                try clear g7
                try clear g11
                try clear h1
                try clear ht
                unfold tokV at C
                go_upto_region 10 with (first | (go_at_call 12; ((with_reducible refine (C.out).mono ?_); rintro e w1 ⟨rfl, b1⟩; have HB1 := Lib.hid b1; have r0 := (b1.cell (p := ⟨bb, off + k * 3, none⟩) hbb).trans p0; have r1 := (b1.cell (p := ⟨bb, off + k * 3 + 1, none⟩) hbb).trans p1; have r3 := (b1.cell (p := ⟨bb, off + (k + 1) * 3, none⟩) hbb).trans p3; clear b1)))
                go_quiet (fail)
                go_wp2_with fail
                go_roundw
                case rel => exact ⟨k + 1, by omega, by go_num, HV, Lib.hid (below_next HB.out (below_drewN HB1.out _))⟩
                case measure => simp [RowKit.intOf]; omega
              · have f1 : (k1 == 1) = false := Ru.eq_f h1
                have f1' : (k1 != 1) = true := Ru.ne_t h1
                have HV : Hid (b = false) := Lib.hid (HNo.out (fun h => by have h2 := HOk2.out.1 h; unfold Pr.stnB at h2; rw [if_neg (by decide), if_pos rfl] at h2; exact h1 (by simpa using of_decide_eq_true h2)))
                clear HYes HNo HOk2
                try clear g1
                try clear g7
                try clear g11
                try clear h1
                try clear ht
                unfold tokV at C
                go_upto_region 10 with (first | (go_at_call 12; ((with_reducible refine (C.out).mono ?_); rintro e w1 ⟨rfl, b1⟩; have HB1 := Lib.hid b1; have r0 := (b1.cell (p := ⟨bb, off + k * 3, none⟩) hbb).trans p0; have r1 := (b1.cell (p := ⟨bb, off + k * 3 + 1, none⟩) hbb).trans p1; have r3 := (b1.cell (p := ⟨bb, off + (k + 1) * 3, none⟩) hbb).trans p3; clear b1)))
                go_quiet (fail)
                go_wp2_with fail
                go_ret
                exact ⟨by rw [HV.out]; rfl, below_next HB.out (below_drewN HB1.out _)⟩
            · skip
              by_cases g11 : kd = 11
              · subst g11
                by_cases ht : t = ⟨#[92]⟩
                · have hts : (t.toList == (strOfNums [92]).toList) = true := by rw [toList_eq by92, ht]; rfl
                  by_cases h1 : k1 = 1
                  · subst h1
                    have HV := Lib.hid (HYes.out (HOk2.out.2 (by unfold Pr.stnB; rw [if_neg (by decide), if_neg (by decide), if_pos ⟨rfl, ht⟩]; rfl)))
                    clear HYes HNo HOk2
                    try clear g1
                    try clear g7
                    try clear g11
                    try clear h1
                    try clear ht
                    unfold tokV at C
                    go_upto_region 10 with (first | (go_at_call 12; ((with_reducible refine (C.out).mono ?_); rintro e w1 ⟨rfl, b1⟩; have HB1 := Lib.hid b1; have r0 := (b1.cell (p := ⟨bb, off + k * 3, none⟩) hbb).trans p0; have r1 := (b1.cell (p := ⟨bb, off + k * 3 + 1, none⟩) hbb).trans p1; have r3 := (b1.cell (p := ⟨bb, off + (k + 1) * 3, none⟩) hbb).trans p3; clear b1)))
                    have hb1 := Nat.lt_of_lt_of_le hbb HB1.out.size
                    have hcl := fun (W : World) (h : W.cell? ⟨w1.heap.size, 0, none⟩ = some (.int .u8 92)) => conv_back1 h
                    obtain ⟨X, hX⟩ : ∃ X, X = strOfNums [92] := ⟨_, rfl⟩
                    rw [← hX] at hcl hts
                    clear hX
                    go_region
                    all_goals
                      go_wp2_with fail
                      go_roundw
                      case rel => exact ⟨k + 1, by omega, by go_num, HV, Lib.hid (below_next HB.out (below_next HB1.out (by first | exact (Below.refl _ _).alloc (Nat.le_refl _) _ | exact ((Below.refl _ _).alloc (Nat.le_refl _) _).drew | exact below_drewN ((Below.refl _ _).alloc (Nat.le_refl _) _) _)))⟩
                      case measure => simp [RowKit.intOf]; omega
                  · have f1' : (k1 != 1) = true := Ru.ne_t h1
                    have f1 : (k1 == 1) = false := Ru.eq_f h1
                    have HV : Hid (b = false) := Lib.hid (HNo.out (fun h => by have h2 := HOk2.out.1 h; unfold Pr.stnB at h2; rw [if_neg (by decide), if_neg (by decide), if_pos ⟨rfl, ht⟩] at h2; have h3 := of_decide_eq_true h2; rcases h3 with h3 | h3; exact h1 (by simpa using h3); cases h3))
                    clear HYes HNo HOk2
                    try clear g1
                    try clear g7
                    try clear g11
                    try clear h1
                    try clear ht
                    unfold tokV at C
                    go_upto_region 10 with (first | (go_at_call 12; ((with_reducible refine (C.out).mono ?_); rintro e w1 ⟨rfl, b1⟩; have HB1 := Lib.hid b1; have r0 := (b1.cell (p := ⟨bb, off + k * 3, none⟩) hbb).trans p0; have r1 := (b1.cell (p := ⟨bb, off + k * 3 + 1, none⟩) hbb).trans p1; have r3 := (b1.cell (p := ⟨bb, off + (k + 1) * 3, none⟩) hbb).trans p3; clear b1)))
                    have hb1 := Nat.lt_of_lt_of_le hbb HB1.out.size
                    have hcl := fun (W : World) (h : W.cell? ⟨w1.heap.size, 0, none⟩ = some (.int .u8 92)) => conv_back1 h
                    obtain ⟨X, hX⟩ : ∃ X, X = strOfNums [92] := ⟨_, rfl⟩
                    rw [← hX] at hcl hts
                    clear hX
                    go_region
                    all_goals
                      go_wp2_with fail
                      go_ret
                      exact ⟨by rw [HV.out]; rfl, below_next HB.out (below_next HB1.out (by first | exact (Below.refl _ _).alloc (Nat.le_refl _) _ | exact ((Below.refl _ _).alloc (Nat.le_refl _) _).drew | exact below_drewN ((Below.refl _ _).alloc (Nat.le_refl _) _) _))⟩
                · have hts : (t.toList == (strOfNums [92]).toList) = false := by rw [toList_eq by92]; exact decide_eq_false (fun h => ht (Pr.bs_inj (by rw [h]; rfl)))
                  have HV := Lib.hid (HYes.out (HOk2.out.2 (by unfold Pr.stnB; rw [if_neg (by decide), if_neg (by decide), if_neg (fun h => ht h.2)])))
                  clear HYes HNo HOk2
                  try clear g1
                  try clear g7
                  try clear g11
                  try clear h1
                  try clear ht
                  unfold tokV at C
                  go_upto_region 10 with (first | (go_at_call 12; ((with_reducible refine (C.out).mono ?_); rintro e w1 ⟨rfl, b1⟩; have HB1 := Lib.hid b1; have r0 := (b1.cell (p := ⟨bb, off + k * 3, none⟩) hbb).trans p0; have r1 := (b1.cell (p := ⟨bb, off + k * 3 + 1, none⟩) hbb).trans p1; have r3 := (b1.cell (p := ⟨bb, off + (k + 1) * 3, none⟩) hbb).trans p3; clear b1)))
                  have hb1 := Nat.lt_of_lt_of_le hbb HB1.out.size
                  have hcl := fun (W : World) (h : W.cell? ⟨w1.heap.size, 0, none⟩ = some (.int .u8 92)) => conv_back1 h
                  obtain ⟨X, hX⟩ : ∃ X, X = strOfNums [92] := ⟨_, rfl⟩
                  rw [← hX] at hcl hts
                  clear hX
                  go_region
                  all_goals
                    go_wp2_with fail
                    go_roundw
                    case rel => exact ⟨k + 1, by omega, by go_num, HV, Lib.hid (below_next HB.out (below_next HB1.out (by first | exact (Below.refl _ _).alloc (Nat.le_refl _) _ | exact ((Below.refl _ _).alloc (Nat.le_refl _) _).drew | exact below_drewN ((Below.refl _ _).alloc (Nat.le_refl _) _) _)))⟩
                    case measure => simp [RowKit.intOf]; omega
              · skip
                have f1' : (kd == 1) = false := Ru.eq_f g1
                have f7' : (kd == 7) = false := Ru.eq_f g7
                have f11' : (kd == 11) = false := Ru.eq_f g11
                have HV := Lib.hid (HYes.out (HOk2.out.2 (by unfold Pr.stnB; rw [if_neg g1, if_neg g7, if_neg (fun h => g11 h.1)])))
                clear HYes HNo HOk2
                try clear g1
                try clear g7
                try clear g11
                try clear h1
                try clear ht
                unfold tokV at C
                go_upto_region 10 with (first | (go_at_call 12; ((with_reducible refine (C.out).mono ?_); rintro e w1 ⟨rfl, b1⟩; have HB1 := Lib.hid b1; have r0 := (b1.cell (p := ⟨bb, off + k * 3, none⟩) hbb).trans p0; have r1 := (b1.cell (p := ⟨bb, off + k * 3 + 1, none⟩) hbb).trans p1; have r3 := (b1.cell (p := ⟨bb, off + (k + 1) * 3, none⟩) hbb).trans p3; clear b1)))
                go_quiet (fail)
                go_wp2_with fail
                go_roundw
                case rel => exact ⟨k + 1, by omega, by go_num, HV, Lib.hid (below_next HB.out (below_drewN HB1.out _))⟩
                case measure => simp [RowKit.intOf]; omega
        · have hl1 : ((k : Int) + 1 == (us.length : Int)) = true := Ru.eq_t (by omega)
          have e := HNx.out
          rw [if_neg hl] at e
          subst e
          clear HP2 HNx
          by_cases g1 : kd = 1
          · subst g1
            have HV := Lib.hid (HYes.out (HOk2.out.2 (rfl)))
            clear HYes HNo HOk2
            try clear g1
            try clear g7
            try clear g11
            try clear h1
            try clear ht
            unfold tokV at C
            go_wp2_with (first | (go_at_call 12; ((with_reducible refine (C.out).mono ?_); rintro e w1 ⟨rfl, b1⟩; have HB1 := Lib.hid b1; have r0 := (b1.cell (p := ⟨bb, off + k * 3, none⟩) hbb).trans p0; clear b1)))
            go_roundw
            case rel => exact ⟨k + 1, by omega, by go_num, HV, Lib.hid (below_next HB.out HB1.out)⟩
            case measure => simp [RowKit.intOf]; omega
          · skip
            by_cases g7 : kd = 7
            · subst g7
              have HV : Hid (b = false) := Lib.hid (HNo.out (fun h => by have h2 := HOk2.out.1 h; cases h2))
              clear HYes HNo HOk2
              unfold tokV at C
              go_wp2_with (first | (go_at_call 12; ((with_reducible refine (C.out).mono ?_); rintro e w1 ⟨rfl, b1⟩; have HB1 := Lib.hid b1; have r0 := (b1.cell (p := ⟨bb, off + k * 3, none⟩) hbb).trans p0; clear b1)))
              go_ret
              exact ⟨by rw [HV.out]; rfl, below_next HB.out HB1.out⟩
            · skip
              by_cases g11 : kd = 11
              · subst g11
                have HV := Lib.hid (HYes.out (HOk2.out.2 (by unfold Pr.stnB; rw [if_neg (by decide), if_neg (by decide)]; split <;> rfl)))
                clear HYes HNo HOk2
                try clear g1
                try clear g7
                try clear g11
                try clear h1
                try clear ht
                unfold tokV at C
                go_wp2_with (first | (go_at_call 12; ((with_reducible refine (C.out).mono ?_); rintro e w1 ⟨rfl, b1⟩; have HB1 := Lib.hid b1; have r0 := (b1.cell (p := ⟨bb, off + k * 3, none⟩) hbb).trans p0; clear b1)))
                go_roundw
                case rel => exact ⟨k + 1, by omega, by go_num, HV, Lib.hid (below_next HB.out HB1.out)⟩
                case measure => simp [RowKit.intOf]; omega
              · skip
                have HV := Lib.hid (HYes.out (HOk2.out.2 (by unfold Pr.stnB; rw [if_neg g1, if_neg g7, if_neg (fun h => g11 h.1)])))
                clear HYes HNo HOk2
                have f7 : (kd == 7) = false := Ru.eq_f g7
                try clear g1
                try clear g7
                try clear g11
                try clear h1
                try clear ht
                unfold tokV at C
                go_wp2_with (first | (go_at_call 12; ((with_reducible refine (C.out).mono ?_); rintro e w1 ⟨rfl, b1⟩; have HB1 := Lib.hid b1; have r0 := (b1.cell (p := ⟨bb, off + k * 3, none⟩) hbb).trans p0; clear b1)))
                go_roundw
                case rel => exact ⟨k + 1, by omega, by go_num, HV, Lib.hid (below_next HB.out HB1.out)⟩
                case measure => simp [RowKit.intOf]; omega
      · have C := Lib.hid (rone_any kd n t (by omega) false (by simp [ho]) wr)
        have HV : Hid (b = false) := Lib.hid (HNo.out (fun h => ho (HOk.out.1 h).1))
        clear HOk ho HNo HYes
        unfold tokV at C
        go_wp2_with (first | (go_at_call 12; ((with_reducible refine (C.out).mono ?_); rintro e w1 ⟨rfl, b1⟩; have HB1 := Lib.hid b1; clear b1)))
        go_ret
        exact ⟨by rw [HV.out]; rfl, below_next HB.out HB1.out⟩
    · obtain rfl : b = true := HBb.out.2 ⟨by omega, fun j hj => HK.out j (by omega)⟩
      have hle : decide ((us.length : Int) ≤ 16384) = true := decide_eq_true (by omega)
      clear HBb HK HF H
      go_wp2_with fail
      go_ret
      exact ⟨rfl, HB.out⟩
end Go.Proofs.YtgcmjkimiakibaaGreatDoor
