/-
  The walk of the reference's Right.
-/
import Derived.Test.YtkcabpjfgbghjaaGreatDoorGap
import Derived.Test.YtkcabpjfgbghjaaGreatDoorGah
import Derived.Deep.RegionWith
import Derived.RegionTactic
import Derived.Deep.RegionHeld3
import Derived.Test.YtkcabpjfgbghjaaGreatDoorGak
import Derived.Test.YtkcabpjfgbghjaaGreatDoorGal
import Derived.Test.YtkcabpjfgbghjaaGreatDoorGai
import Derived.Outline
import Derived.Test.YtkcabpjfgbghjaaGreatDoorGaj
import Derived.Test.YtkcabpjfgbghjaaGreatDoorGam
import Derived.Test.YtkcabpjfgbghjaaGreatDoorGan
import Derived.Maps.OwnOps
import Derived.Maps.OwnSet
import Derived.WalkArith
import Derived.Test.YtkcabpjfgbghjaaGreatDoorGae
import Derived.Test.YtkcabpjfgbghjaaGreatDoorGag
import Derived.Laws.StructEq
import Derived.Deep.QuietTactic
import Derived.BigQuiet
import Derived.LoopTactic
set_option maxHeartbeats 16000000
set_option maxRecDepth 100000
namespace Go.Proofs.YtkcabpjfgbghjaaGreatDoor
open Go.RowKit
theorem toList_eq {t : ByteArray} {l : List Int} (hl : Ru.By l) : (t.toList == (strOfNums l).toList) = decide (Ru.bs t = l) := by
 rw [Bool.eq_iff_iff, beq_iff_eq, decide_eq_true_iff]
 constructor
 ·intro h
  have e2 := Ru.bs_str hl
  unfold Ru.bs at e2 ⊢
  rw [<- Lib.toList_data] at e2 ⊢
  rw [<- e2, h]
 ·rintro rfl
  have : strOfNums (Ru.bs t) = t := Pr.bs_inj (Ru.bs_str (Ru.bs_by t))
  rw [this]
theorem by92 : Ru.By [92] := fun c hc => by rw [List.mem_singleton] at hc; omega
theorem rrightB_any (us : List Tk.Tok) (hF : Pr.FairB us) (b : Bool) (hb : b = true ↔ Pr.RightU us) (A : Option Addr) (cap : Nat) (w : World) (h : Ts w w.heap.size A us) :
 Calls Tryz.prog 46 #[.slice A us.length cap] w (Bo b w) := by
 have hm := hF.1
 have H := Lib.hid h
 have HF := Lib.hid hF.2
 have HBb := Lib.hid hb
 clear h hF hb
 go_enter Tryz.func46, Tryz.ntmps46
 go_wp2_with fail
 go_loopw [3] (fun v3 wr => ∃ k : Nat, k <= us.length /\ v3 = .int .i64 k /\ Hid (∀ j, j < k -> Pr.OkAt us j) /\ Hid (Below w.heap.size w wr)) (fun v3 _ => us.length - (RowKit.intOf v3).toNat)
 case atStart => exact ⟨0, Nat.zero_le _, rfl, Lib.hid (fun j hj => by omega), Lib.hid (Below.refl _ _)⟩
 case round =>
  obtain ⟨k, hk, rfl, HK, HB⟩ := hrel
  by_cases hlt : k < us.length
  ·have HR := Lib.hid (H.out.next HB.out)
   obtain ⟨bb, off, rfl, hbb, hp⟩ := HR.out (by omega)
   obtain ⟨p0, p1, p2⟩ := hp k hlt
   have HP2 : Hid (∀ (h2 : k + 1 < us.length), wr.cell? ⟨bb, off + (k + 1) * 3, none⟩ = some (.int .i64 (Tk.tk us (k + 1)).1)) := Lib.hid fun h2 => (hp (k + 1) h2).1
   have hsz := HF.out k hlt
   have HOk : Hid (Pr.OkAt us k ↔ (Pr.OneU (Tk.tk us k) /\ Pr.stnB (Tk.tk us k).1 (Tk.tk us k).2.1 (Pr.nxK us (k + 1)) = true)) := Lib.hid Iff.rfl
   have HNo : Hid (¬ Pr.OkAt us k -> b = false) := Lib.hid fun h => Pr.b_false HBb.out (fun hr => h (hr.2 k hlt))
   have HYes : Hid (Pr.OkAt us k -> ∀ j, j < k + 1 -> Pr.OkAt us j) := Lib.hid fun h j hj => by
    by_cases hj2 : j < k
    ·exact HK.out j hj2
    ·obtain rfl : j = k := by omega
     exact h
   have HNx : Hid (Pr.nxK us (k + 1) = if k + 1 < us.length then some (Tk.tk us (k + 1)).1 else none) := Lib.hid rfl
   clear hp HBb HK HF
   generalize Pr.nxK us (k + 1) = nx at *
   generalize (Tk.tk us (k + 1)).1 = k1 at *
   generalize Tk.tk us k = u at *
   obtain ⟨kd, t, n⟩ := u
   simp only at p0 p1 p2 hsz HOk
   by_cases ho : Pr.OneU (kd, t, n)
   ·have C := Lib.hid (rone_any kd n t (by omega) true (by simp [ho]) wr)
    have HOk2 : Hid (Pr.OkAt us k ↔ Pr.stnB kd t nx = true) := Lib.hid (HOk.out.trans ⟨fun h => h.2, fun h => ⟨ho, h⟩⟩)
    clear HOk ho
    by_cases hl : k + 1 < us.length
    ·have hl1 : ((k : Int) + 1 == (us.length : Int)) = false := Ru.eq_f (by omega)
     have p3 := HP2.out hl
     have e := HNx.out
     rw [if_pos hl] at e
     subst e
     clear HP2 HNx
     by_cases g1 : kd = 1
     ·subst g1
      by_cases h1 : k1 = 1
      ·subst h1
       have HV : Hid (b = false) := Lib.hid (HNo.out (fun h => by have h2 := HOk2.out.1 h; cases h2))
       clear HYes HNo HOk2
       try clear g1
       try clear g7
       try clear g11
       try clear h1
       try clear ht
       unfold tokV at C
       go_upto_region 10 with (first | (go_at_call 82; ((with_reducible refine (C.out).mono ?_); rintro e w1 ⟨rfl, b1⟩; have HB1 := Lib.hid b1; have r0 := (b1.cell (p := ⟨bb, off + k * 3, none⟩) hbb).trans p0; have r1 := (b1.cell (p := ⟨bb, off + k * 3 + 1, none⟩) hbb).trans p1; have r3 := (b1.cell (p := ⟨bb, off + (k + 1) * 3, none⟩) hbb).trans p3; clear b1)))
       go_quiet (fail)
       go_wp2_with fail
       go_ret
       exact ⟨by rw [HV.out]; rfl, below_next HB.out (below_drewN HB1.out _)⟩
      ·have f1 : (k1 == 1) = false := Ru.eq_f h1
       have f1' : (k1 != 1) = true := Ru.ne_t h1
       have HV := Lib.hid (HYes.out (HOk2.out.2 (by unfold Pr.stnB; rw [if_pos rfl]; exact decide_eq_true (by simpa using h1))))
       clear HYes HNo HOk2
       try clear g1
       try clear g7
       try clear g11
       try clear h1
       try clear ht
       unfold tokV at C
       go_upto_region 10 with (first | (go_at_call 82; ((with_reducible refine (C.out).mono ?_); rintro e w1 ⟨rfl, b1⟩; have HB1 := Lib.hid b1; have r0 := (b1.cell (p := ⟨bb, off + k * 3, none⟩) hbb).trans p0; have r1 := (b1.cell (p := ⟨bb, off + k * 3 + 1, none⟩) hbb).trans p1; have r3 := (b1.cell (p := ⟨bb, off + (k + 1) * 3, none⟩) hbb).trans p3; clear b1)))
       go_quiet (fail)
       go_wp2_with fail
       go_roundw
       case rel => exact ⟨k + 1, by omega, by go_num, HV, Lib.hid (below_next HB.out (below_drewN HB1.out _))⟩
       case measure => simp [RowKit.intOf]; omega
     ·skip
      by_cases g7 : kd = 7
      ·subst g7
       by_cases h1 : k1 = 1
       ·subst h1
        have HV := Lib.hid (HYes.out (HOk2.out.2 (rfl)))
        clear HYes HNo HOk2
        try clear g1
        try clear g7
        try clear g11
        try clear h1
        try clear ht
        unfold tokV at C
        go_upto_region 10 with (first | (go_at_call 82; ((with_reducible refine (C.out).mono ?_); rintro e w1 ⟨rfl, b1⟩; have HB1 := Lib.hid b1; have r0 := (b1.cell (p := ⟨bb, off + k * 3, none⟩) hbb).trans p0; have r1 := (b1.cell (p := ⟨bb, off + k * 3 + 1, none⟩) hbb).trans p1; have r3 := (b1.cell (p := ⟨bb, off + (k + 1) * 3, none⟩) hbb).trans p3; clear b1)))
        go_quiet (fail)
        go_wp2_with fail
        go_roundw
        case rel => exact ⟨k + 1, by omega, by go_num, HV, Lib.hid (below_next HB.out (below_drewN HB1.out _))⟩
        case measure => simp [RowKit.intOf]; omega
       ·have f1 : (k1 == 1) = false := Ru.eq_f h1
        have f1' : (k1 != 1) = true := Ru.ne_t h1
        have HV : Hid (b = false) := Lib.hid (HNo.out (fun h => by have h2 := HOk2.out.1 h; unfold Pr.stnB at h2; rw [if_neg (by decide), if_pos rfl] at h2; exact h1 (by simpa using of_decide_eq_true h2)))
        clear HYes HNo HOk2
        try clear g1
        try clear g7
        try clear g11
        try clear h1
        try clear ht
        unfold tokV at C
        go_upto_region 10 with (first | (go_at_call 82; ((with_reducible refine (C.out).mono ?_); rintro e w1 ⟨rfl, b1⟩; have HB1 := Lib.hid b1; have r0 := (b1.cell (p := ⟨bb, off + k * 3, none⟩) hbb).trans p0; have r1 := (b1.cell (p := ⟨bb, off + k * 3 + 1, none⟩) hbb).trans p1; have r3 := (b1.cell (p := ⟨bb, off + (k + 1) * 3, none⟩) hbb).trans p3; clear b1)))
        go_quiet (fail)
        go_wp2_with fail
        go_ret
        exact ⟨by rw [HV.out]; rfl, below_next HB.out (below_drewN HB1.out _)⟩
      ·skip
       by_cases g11 : kd = 11
       ·subst g11
        by_cases ht : t = ⟨#[92]⟩
        ·have hts : (t.toList == (strOfNums [92]).toList) = true := by rw [toList_eq by92, ht]; rfl
         by_cases h1 : k1 = 1
         ·subst h1
          have HV := Lib.hid (HYes.out (HOk2.out.2 (by unfold Pr.stnB; rw [if_neg (by decide), if_neg (by decide), if_pos ⟨rfl, ht⟩]; rfl)))
          clear HYes HNo HOk2
          try clear g1
          try clear g7
          try clear g11
          try clear h1
          try clear ht
          unfold tokV at C
          go_upto_region 10 with (first | (go_at_call 82; ((with_reducible refine (C.out).mono ?_); rintro e w1 ⟨rfl, b1⟩; have HB1 := Lib.hid b1; have r0 := (b1.cell (p := ⟨bb, off + k * 3, none⟩) hbb).trans p0; have r1 := (b1.cell (p := ⟨bb, off + k * 3 + 1, none⟩) hbb).trans p1; have r3 := (b1.cell (p := ⟨bb, off + (k + 1) * 3, none⟩) hbb).trans p3; clear b1)))
          have hb1 := Nat.lt_of_lt_of_le hbb HB1.out.size
          have hcl := fun (W : World) (h : W.cell? ⟨w1.heap.size, 0, none⟩ = some (.int .u8 92)) => conv_back1 h
          obtain ⟨X, hX⟩ : ∃ X, X = strOfNums [92] := ⟨_, rfl⟩
          rw [<- hX] at hcl hts
          clear hX
          go_region
          all_goals
           go_wp2_with fail
           go_roundw
           case rel => exact ⟨k + 1, by omega, by go_num, HV, Lib.hid (below_next HB.out (below_next HB1.out (by first | exact (Below.refl _ _).alloc (Nat.le_refl _) _ | exact ((Below.refl _ _).alloc (Nat.le_refl _) _).drew | exact below_drewN ((Below.refl _ _).alloc (Nat.le_refl _) _) _)))⟩
           case measure => simp [RowKit.intOf]; omega
         ·have f1' : (k1 != 1) = true := Ru.ne_t h1
          have f1 : (k1 == 1) = false := Ru.eq_f h1
          have HV : Hid (b = false) := Lib.hid (HNo.out (fun h => by have h2 := HOk2.out.1 h; unfold Pr.stnB at h2; rw [if_neg (by decide), if_neg (by decide), if_pos ⟨rfl, ht⟩] at h2; have h3 := of_decide_eq_true h2; rcases h3 with h3 | h3; exact h1 (by simpa using h3); cases h3))
          clear HYes HNo HOk2
          try clear g1
          try clear g7
          try clear g11
          try clear h1
          try clear ht
          unfold tokV at C
          go_upto_region 10 with (first | (go_at_call 82; ((with_reducible refine (C.out).mono ?_); rintro e w1 ⟨rfl, b1⟩; have HB1 := Lib.hid b1; have r0 := (b1.cell (p := ⟨bb, off + k * 3, none⟩) hbb).trans p0; have r1 := (b1.cell (p := ⟨bb, off + k * 3 + 1, none⟩) hbb).trans p1; have r3 := (b1.cell (p := ⟨bb, off + (k + 1) * 3, none⟩) hbb).trans p3; clear b1)))
          have hb1 := Nat.lt_of_lt_of_le hbb HB1.out.size
          have hcl := fun (W : World) (h : W.cell? ⟨w1.heap.size, 0, none⟩ = some (.int .u8 92)) => conv_back1 h
          obtain ⟨X, hX⟩ : ∃ X, X = strOfNums [92] := ⟨_, rfl⟩
          rw [<- hX] at hcl hts
          clear hX
          go_region
          all_goals
           go_wp2_with fail
           go_ret
           exact ⟨by rw [HV.out]; rfl, below_next HB.out (below_next HB1.out (by first | exact (Below.refl _ _).alloc (Nat.le_refl _) _ | exact ((Below.refl _ _).alloc (Nat.le_refl _) _).drew | exact below_drewN ((Below.refl _ _).alloc (Nat.le_refl _) _) _))⟩
        ·have hts : (t.toList == (strOfNums [92]).toList) = false := by rw [toList_eq by92]; exact decide_eq_false (fun h => ht (Pr.bs_inj (by rw [h]; rfl)))
         have HV := Lib.hid (HYes.out (HOk2.out.2 (by unfold Pr.stnB; rw [if_neg (by decide), if_neg (by decide), if_neg (fun h => ht h.2)])))
         clear HYes HNo HOk2
         try clear g1
         try clear g7
         try clear g11
         try clear h1
         try clear ht
         unfold tokV at C
         go_upto_region 10 with (first | (go_at_call 82; ((with_reducible refine (C.out).mono ?_); rintro e w1 ⟨rfl, b1⟩; have HB1 := Lib.hid b1; have r0 := (b1.cell (p := ⟨bb, off + k * 3, none⟩) hbb).trans p0; have r1 := (b1.cell (p := ⟨bb, off + k * 3 + 1, none⟩) hbb).trans p1; have r3 := (b1.cell (p := ⟨bb, off + (k + 1) * 3, none⟩) hbb).trans p3; clear b1)))
         have hb1 := Nat.lt_of_lt_of_le hbb HB1.out.size
         have hcl := fun (W : World) (h : W.cell? ⟨w1.heap.size, 0, none⟩ = some (.int .u8 92)) => conv_back1 h
         obtain ⟨X, hX⟩ : ∃ X, X = strOfNums [92] := ⟨_, rfl⟩
         rw [<- hX] at hcl hts
         clear hX
         go_region
         all_goals
          go_wp2_with fail
          go_roundw
          case rel => exact ⟨k + 1, by omega, by go_num, HV, Lib.hid (below_next HB.out (below_next HB1.out (by first | exact (Below.refl _ _).alloc (Nat.le_refl _) _ | exact ((Below.refl _ _).alloc (Nat.le_refl _) _).drew | exact below_drewN ((Below.refl _ _).alloc (Nat.le_refl _) _) _)))⟩
          case measure => simp [RowKit.intOf]; omega
       ·skip
        have f1' : (kd == 1) = false := Ru.eq_f g1
        have f7' : (kd == 7) = false := Ru.eq_f g7
        have f11' : (kd == 11) = false := Ru.eq_f g11
        have HV := Lib.hid (HYes.out (HOk2.out.2 (by unfold Pr.stnB; rw [if_neg g1, if_neg g7, if_neg (fun h => g11 h.1)])))
        clear HYes HNo HOk2
        try clear g1
        try clear g7
        try clear g11
        try clear h1
        try clear ht
        unfold tokV at C
        go_upto_region 10 with (first | (go_at_call 82; ((with_reducible refine (C.out).mono ?_); rintro e w1 ⟨rfl, b1⟩; have HB1 := Lib.hid b1; have r0 := (b1.cell (p := ⟨bb, off + k * 3, none⟩) hbb).trans p0; have r1 := (b1.cell (p := ⟨bb, off + k * 3 + 1, none⟩) hbb).trans p1; have r3 := (b1.cell (p := ⟨bb, off + (k + 1) * 3, none⟩) hbb).trans p3; clear b1)))
        go_quiet (fail)
        go_wp2_with fail
        go_roundw
        case rel => exact ⟨k + 1, by omega, by go_num, HV, Lib.hid (below_next HB.out (below_drewN HB1.out _))⟩
        case measure => simp [RowKit.intOf]; omega
    ·have hl1 : ((k : Int) + 1 == (us.length : Int)) = true := Ru.eq_t (by omega)
     have e := HNx.out
     rw [if_neg hl] at e
     subst e
     clear HP2 HNx
     by_cases g1 : kd = 1
     ·subst g1
      have HV := Lib.hid (HYes.out (HOk2.out.2 (rfl)))
      clear HYes HNo HOk2
      try clear g1
      try clear g7
      try clear g11
      try clear h1
      try clear ht
      unfold tokV at C
      go_wp2_with (first | (go_at_call 82; ((with_reducible refine (C.out).mono ?_); rintro e w1 ⟨rfl, b1⟩; have HB1 := Lib.hid b1; have r0 := (b1.cell (p := ⟨bb, off + k * 3, none⟩) hbb).trans p0; clear b1)))
      go_roundw
      case rel => exact ⟨k + 1, by omega, by go_num, HV, Lib.hid (below_next HB.out HB1.out)⟩
      case measure => simp [RowKit.intOf]; omega
     ·skip
      by_cases g7 : kd = 7
      ·subst g7
       have HV : Hid (b = false) := Lib.hid (HNo.out (fun h => by have h2 := HOk2.out.1 h; cases h2))
       clear HYes HNo HOk2
       unfold tokV at C
       go_wp2_with (first | (go_at_call 82; ((with_reducible refine (C.out).mono ?_); rintro e w1 ⟨rfl, b1⟩; have HB1 := Lib.hid b1; have r0 := (b1.cell (p := ⟨bb, off + k * 3, none⟩) hbb).trans p0; clear b1)))
       go_ret
       exact ⟨by rw [HV.out]; rfl, below_next HB.out HB1.out⟩
      ·skip
       by_cases g11 : kd = 11
       ·subst g11
        have HV := Lib.hid (HYes.out (HOk2.out.2 (by unfold Pr.stnB; rw [if_neg (by decide), if_neg (by decide)]; split <;> rfl)))
        clear HYes HNo HOk2
        try clear g1
        try clear g7
        try clear g11
        try clear h1
        try clear ht
        unfold tokV at C
        go_wp2_with (first | (go_at_call 82; ((with_reducible refine (C.out).mono ?_); rintro e w1 ⟨rfl, b1⟩; have HB1 := Lib.hid b1; have r0 := (b1.cell (p := ⟨bb, off + k * 3, none⟩) hbb).trans p0; clear b1)))
        go_roundw
        case rel => exact ⟨k + 1, by omega, by go_num, HV, Lib.hid (below_next HB.out HB1.out)⟩
        case measure => simp [RowKit.intOf]; omega
       ·skip
        have HV := Lib.hid (HYes.out (HOk2.out.2 (by unfold Pr.stnB; rw [if_neg g1, if_neg g7, if_neg (fun h => g11 h.1)])))
        clear HYes HNo HOk2
        have f7 : (kd == 7) = false := Ru.eq_f g7
        try clear g1
        try clear g7
        try clear g11
        try clear h1
        try clear ht
        unfold tokV at C
        go_wp2_with (first | (go_at_call 82; ((with_reducible refine (C.out).mono ?_); rintro e w1 ⟨rfl, b1⟩; have HB1 := Lib.hid b1; have r0 := (b1.cell (p := ⟨bb, off + k * 3, none⟩) hbb).trans p0; clear b1)))
        go_roundw
        case rel => exact ⟨k + 1, by omega, by go_num, HV, Lib.hid (below_next HB.out HB1.out)⟩
        case measure => simp [RowKit.intOf]; omega
   ·have C := Lib.hid (rone_any kd n t (by omega) false (by simp [ho]) wr)
    have HV : Hid (b = false) := Lib.hid (HNo.out (fun h => ho (HOk.out.1 h).1))
    clear HOk ho HNo HYes
    unfold tokV at C
    go_wp2_with (first | (go_at_call 82; ((with_reducible refine (C.out).mono ?_); rintro e w1 ⟨rfl, b1⟩; have HB1 := Lib.hid b1; clear b1)))
    go_ret
    exact ⟨by rw [HV.out]; rfl, below_next HB.out HB1.out⟩
  ·obtain rfl : b = true := HBb.out.2 ⟨by omega, fun j hj => HK.out j (by omega)⟩
   have hle : decide ((us.length : Int) <= 16384) = true := decide_eq_true (by omega)
   clear HBb HK HF H
   go_wp2_with fail
   go_ret
   exact ⟨rfl, HB.out⟩
namespace Rl
def okS (us : List Tk.Tok) (i : Nat) : Prop := Ru.g (Ns.ends us) i ≠ (us.length : Int) /\ (Tk.tk us i).1 ≠ 7 /\ ¬ ((Tk.tk us i).1 = 11 /\ (Tk.tk us i).2.1 = ⟨#[92]⟩) /\ ((Tk.tk us i).1 = 13 -> ∃ j, j < i /\ Ru.g (Ns.ends us) j = (i : Int))
def SdIs (sd : List Tk.Tok -> Bool) : Prop := ∀ us, sd us = true ↔ (Pr.RightU us /\ ¬ Ns.deep us /\ ∀ i, i < us.length -> okS us i)
def strB (es : List Int) (kd : Int) (k j : Nat) : Bool := decide (kd = 13) && decide (∀ i, i < j -> Ru.g es i ≠ (k : Int))
theorem strB_0 (es : List Int) (kd : Int) (k : Nat) : strB es kd k 0 = (kd == 13) := by
 unfold strB
 rw [decide_eq_true (p := ∀ i, i < 0 -> Ru.g es i ≠ (k : Int)) (fun i hi => absurd hi (Nat.not_lt_zero _)), Bool.and_true]
 by_cases h : kd = 13
 ·subst h; rfl
 ·rw [decide_eq_false h, beq_false_of_ne h]
theorem strB_hit {es : List Int} {kd : Int} {k j : Nat} (h : Ru.g es j = (k : Int)) : strB es kd k (j + 1) = false := by
 unfold strB
 rw [decide_eq_false (p := ∀ i, i < j + 1 -> Ru.g es i ≠ (k : Int)) (fun c => c j (Nat.lt_succ_self j) h), Bool.and_false]
theorem strB_on {es : List Int} {kd : Int} {k j : Nat} (h : Ru.g es j ≠ (k : Int)) : strB es kd k (j + 1) = strB es kd k j := by
 unfold strB
 congr 1
 refine decide_eq_decide.2 ⟨fun c i hi => c i (by omega), fun c i hi => ?_⟩
 by_cases e : i = j
 ·subst e; exact h
 ·exact c i (by omega)
theorem strB_yes {es : List Int} {kd : Int} {k : Nat} (h : strB es kd k k = true) : kd = 13 /\ ¬ ∃ j, j < k /\ Ru.g es j = (k : Int) := by
 unfold strB at h
 simp only [Bool.and_eq_true, decide_eq_true_eq] at h
 exact ⟨h.1, fun ⟨j, h1, h2⟩ => h.2 j h1 h2⟩
theorem strB_no {es : List Int} {kd : Int} {k : Nat} (h : strB es kd k k = false) (h13 : kd = 13) : ∃ j, j < k /\ Ru.g es j = (k : Int) := by
 unfold strB at h
 rw [decide_eq_true h13, Bool.true_and, decide_eq_false_iff_not] at h
 exact Classical.byContradiction fun c => h fun i hi e => c ⟨i, hi, e⟩
end Rl
theorem rsound_any (sd : List Tk.Tok -> Bool) (hsd : Rl.SdIs sd) : SdC sd := fun us hF A cap w hcap h => by
 have hm := hF.1
 have HEL := Lib.hid (Ns.ends_len us)
 have HSD := Lib.hid (hsd us)
 generalize sd us = b at *
 have H := Lib.hid h
 have CE : Hid (∀ W, Below w.heap.size w W -> Calls Tryz.prog 32 #[.slice A us.length cap] W (EndsIs us W)) := Lib.hid fun W hb => rends_any us (by omega) A cap W (h.next hb)
 by_cases hr : Pr.RightU us
 ·have CR := Lib.hid (rrightB_any us hF true (by simp [hr]) A cap w h)
  by_cases hd : Ns.deep us
  ·have HV : Hid (b = false) := Lib.hid (by cases hb : b with | false => rfl | true => exact absurd hd (HSD.out.1 hb).2.1)
   have CE2 : Hid (∀ W, Below w.heap.size w W -> Calls Tryz.prog 32 #[.slice A us.length cap] W (EndsBad W)) := Lib.hid fun W hb => (CE.out W hb).mono fun e w' h => h.2 hd
   clear h hF CE hsd HSD
   go_enter Tryz.func21, Tryz.ntmps21
   go_wp2_with (first | (go_at_call 46; ((with_reducible refine (CR.out).mono ?_); rintro e w1 ⟨rfl, b1⟩; have HB1 := Lib.hid b1; clear b1)) | (go_at_call 32; ((with_reducible refine (CE2.out _ HB1.out).mono ?_); rintro e w2 ⟨rfl, b2⟩; have HB2 := Lib.hid (below_next HB1.out b2); clear b2)))
   go_ret
   exact ⟨by rw [HV.out]; rfl, HB2.out⟩
  ·have CE2 : Hid (∀ W, Below w.heap.size w W -> Calls Tryz.prog 32 #[.slice A us.length cap] W (EndsRd us W)) := Lib.hid fun W hb => (CE.out W hb).mono fun e w' h => ends_rd (h.1 hd)
   have HB : Hid (b = true ↔ ∀ i, i < us.length -> Rl.okS us i) := Lib.hid ⟨fun h => (HSD.out.1 h).2.2, fun h => HSD.out.2 ⟨hr, hd, h⟩⟩
   clear h hF CE hsd HSD
   go_enter Tryz.func21, Tryz.ntmps21
   go_wp2_with (first | (go_at_call 46; ((with_reducible refine (CR.out).mono ?_); rintro e w1 ⟨rfl, b1⟩; have HB1 := Lib.hid b1; clear b1)) | (go_at_call 32; ((with_reducible refine (CE2.out _ HB1.out).mono ?_); rintro e w2 ⟨A2, c2, rfl, hc2, B2, b2⟩; have HB2 := Lib.hid (below_next HB1.out b2); have HS2 := Lib.hid B2; clear b2 B2)))
   go_loopw [5] (fun v5 wr => ∃ k : Nat, k <= us.length /\ v5 = .int .i64 k /\ Hid (∀ j, j < k -> Rl.okS us j) /\ Hid (Below w2.heap.size w2 wr)) (fun v5 _ => us.length - (RowKit.intOf v5).toNat)
   case atStart => exact ⟨0, Nat.zero_le _, rfl, Lib.hid (fun j hj => by omega), Lib.hid (Below.refl _ _)⟩
   case round =>
    obtain ⟨k, hk, rfl, HK, HBk⟩ := hrel
    by_cases hlt : k < us.length
    ·have HBW := Lib.hid (below_next HB2.out HBk.out)
     obtain ⟨bb, off, rfl, hbb, hp⟩ := H.out (by omega)
     obtain ⟨p0, p1, p2⟩ := hp k hlt
     replace p0 := (HBW.out.cell (p := ⟨bb, off + k * 3, none⟩) hbb).trans p0
     replace p1 := (HBW.out.cell (p := ⟨bb, off + k * 3 + 1, none⟩) hbb).trans p1
     replace p2 := (HBW.out.cell (p := ⟨bb, off + k * 3 + 2, none⟩) hbb).trans p2
     obtain ⟨bC, oC, rfl, hbC, hpC⟩ := HS2.out (by rw [HEL.out]; omega)
     have HBC := Lib.hid hbC
     have HPC : Hid (∀ j, j < us.length -> w2.cell? ⟨bC, oC + j, none⟩ = some (.int .i64 (Ru.g (Ns.ends us) j))) := Lib.hid fun j hj => hpC j (by rw [HEL.out]; exact hj)
     have e0 := (HBk.out.cell (p := ⟨bC, oC + k, none⟩) hbC).trans (HPC.out k hlt)
     have hec : (k : Int) < ((Ns.ends us).length : Int) := by rw [HEL.out]; omega
     have HNo : Hid (¬ Rl.okS us k -> b = false) := Lib.hid fun hn => by cases hb : b with | false => rfl | true => exact absurd (HB.out.1 hb k hlt) hn
     have HYes : Hid (Rl.okS us k -> ∀ j, j < k + 1 -> Rl.okS us j) := Lib.hid fun hy j hj => by
      by_cases hj2 : j < k
      ·exact HK.out j hj2
      ·obtain rfl : j = k := by omega
       exact hy
     have HOk : Hid (Rl.okS us k ↔ Ru.g (Ns.ends us) k ≠ (us.length : Int) /\ (Tk.tk us k).1 ≠ 7 /\ ¬ ((Tk.tk us k).1 = 11 /\ (Tk.tk us k).2.1 = ⟨#[92]⟩) /\ ((Tk.tk us k).1 = 13 -> ∃ j, j < k /\ Ru.g (Ns.ends us) j = (k : Int))) := Lib.hid Iff.rfl
     clear hp hpC hbC hbb HB HK
     generalize Tk.tk us k = u at *
     obtain ⟨kd, t, n⟩ := u
     simp only at p0 p1 p2 HOk
     go_upto_region 10 with fail
     have k3 := heap_alloc_new wr (.cells #[.int .i64 kd, .string t, .int .i64 n] 61)
     have b3 := (Below.refl wr.heap.size wr).alloc (Nat.le_refl _) (.cells #[.int .i64 kd, .string t, .int .i64 n] 61)
     generalize wr.alloc (.cells #[.int .i64 kd, .string t, .int .i64 n] 61) = w3 at k3 b3 ⊢
     obtain ⟨y0, y1, y2⟩ := tok3_cells k3
     have HB3 := Lib.hid (below_next HBk.out b3)
     have HBW3 := Lib.hid (below_next HBW.out b3)
     replace e0 := (HB3.out.cell (p := ⟨bC, oC + k, none⟩) HBC.out).trans (HPC.out k hlt)
     have hs3 : wr.heap.size < w3.heap.size := (Array.getElem?_eq_some_iff.1 k3).1
     clear p0 p1 p2 k3 b3
     clear CR CE2
     by_cases cg : Ru.g (Ns.ends us) k = (us.length : Int)
     ·have HV := Lib.hid (HNo.out (fun c => (HOk.out.1 c).1 cg))
      rw [cg] at e0
      clear cg HNo HYes HOk
      go_wp2_with fail
      go_ret
      exact ⟨by rw [HV.out]; rfl, below_next HB2.out HB3.out⟩
     ·have gb : (Ru.g (Ns.ends us) k == (us.length : Int)) = false := beq_false_of_ne cg
      by_cases c7 : kd = 7
      ·subst c7
       have HV := Lib.hid (HNo.out (fun c => (HOk.out.1 c).2.1 rfl))
       clear cg HNo HYes HOk
       go_wp2_with fail
       go_ret
       exact ⟨by rw [HV.out]; rfl, below_next HB2.out HB3.out⟩
      ·have b7 : (kd == 7) = false := beq_false_of_ne c7
       by_cases c11 : kd = 11
       ·subst c11
        have hcl := fun (W : World) (h : W.cell? ⟨w3.heap.size, 0, none⟩ = some (.int .u8 92)) => conv_back1 h
        have b4 := (Below.refl w3.heap.size w3).alloc (Nat.le_refl _) (.cells #[.int .u8 92] 5)
        by_cases ct : t = ⟨#[92]⟩
        ·have hts : (t.toList == (strOfNums [92]).toList) = true := by rw [toList_eq by92, ct]; rfl
         have HV := Lib.hid (HNo.out (fun c => (HOk.out.1 c).2.2.1 ⟨rfl, ct⟩))
         obtain ⟨X, hX⟩ : ∃ X, X = strOfNums [92] := ⟨_, rfl⟩
         rw [<- hX] at hcl hts
         clear hX cg HNo HYes HOk ct
         go_wp2_with fail
         go_ret
         exact ⟨by rw [HV.out]; rfl, below_next HB2.out (below_next HB3.out b4)⟩
        ·have hts : (t.toList == (strOfNums [92]).toList) = false := by rw [toList_eq by92]; exact decide_eq_false (fun h => ct (Pr.bs_inj (by rw [h]; rfl)))
         have HC : Hid (Rl.okS us k ↔ ((11 : Int) = 13 -> ∃ j, j < k /\ Ru.g (Ns.ends us) j = (k : Int))) := Lib.hid (HOk.out.trans ⟨fun c => c.2.2.2, fun c => ⟨cg, c7, fun x => ct x.2, c⟩⟩)
         obtain ⟨X, hX⟩ : ∃ X, X = strOfNums [92] := ⟨_, rfl⟩
         rw [<- hX] at hcl hts
         clear hX cg ct
         go_upto_region 12 with fail
         have z0 := (b4.cell (p := ⟨wr.heap.size, 0, none⟩) hs3).trans y0
         have HB4 := Lib.hid (below_next HB3.out b4)
         generalize w3.alloc (.cells #[.int .u8 92] 5) = w4 at *
         clear b4 y0 y1 y2 hcl
         have HPC4 : Hid (∀ j, j < us.length -> w4.cell? ⟨bC, oC + j, none⟩ = some (.int .i64 (Ru.g (Ns.ends us) j))) := Lib.hid fun j hj => (HB4.out.cell (p := ⟨bC, oC + j, none⟩) HBC.out).trans (HPC.out j hj)
         clear HOk HPC e0
         go_wp2_with fail
         go_loopw [7, 8] (fun v7 v8 wq => ∃ j : Nat, j <= k /\ v8 = .int .i64 j /\ v7 = .bool (Rl.strB (Ns.ends us) 11 k j) /\ wq = w4) (fun _ v8 _ => k - (RowKit.intOf v8).toNat)
         case atStart => exact ⟨0, Nat.zero_le _, rfl, by rw [Rl.strB_0]; try rfl, rfl⟩
         case round =>
          obtain ⟨j, hj, rfl, rfl, rfl⟩ := hrel
          by_cases hjk : j < k
          ·have e1 := HPC4.out j (by omega)
           have hjc : (j : Int) < ((Ns.ends us).length : Int) := by rw [HEL.out]; omega
           by_cases hq : Ru.g (Ns.ends us) j = (k : Int)
           ·have HN := Lib.hid (Rl.strB_hit (kd := 11) hq)
            rw [hq] at e1
            clear hq
            go_wp2_with fail
            go_roundw
            case rel => exact ⟨j + 1, by omega, by go_num, by rw [HN.out], trivial⟩
            case measure => simp [RowKit.intOf]; omega
           ·have HN := Lib.hid (Rl.strB_on (kd := 11) hq)
            have qb : (Ru.g (Ns.ends us) j == (k : Int)) = false := beq_false_of_ne hq
            clear hq
            go_wp2_with fail
            go_roundw
            case rel => exact ⟨j + 1, by omega, by go_num, by rw [HN.out], trivial⟩
            case measure => simp [RowKit.intOf]; omega
          ·obtain rfl : k = j := by omega
           have HSY := Lib.hid (fun h => Rl.strB_yes (es := Ns.ends us) (kd := 11) (k := k) h)
           have HSN := Lib.hid (fun h => Rl.strB_no (es := Ns.ends us) (kd := 11) (k := k) h)
           generalize Rl.strB (Ns.ends us) 11 k k = sb at *
           cases sb
           ·have HY := Lib.hid (HYes.out (HC.out.2 (HSN.out rfl)))
            clear HYes HNo HC HSY HSN
            go_wp2_with fail
            go_roundw
            case rel => exact ⟨k + 1, by omega, by go_num, HY, HB4⟩
            case measure => simp [RowKit.intOf]; omega
           ·have HV := Lib.hid (HNo.out (fun c => (HSY.out rfl).2 (HC.out.1 c (HSY.out rfl).1)))
            clear HYes HNo HC HSY HSN
            go_wp2_with fail
            go_ret
            exact ⟨by rw [HV.out]; rfl, below_next HB2.out HB4.out⟩
       ·have b11 : (kd == 11) = false := beq_false_of_ne c11
        have HC : Hid (Rl.okS us k ↔ (kd = 13 -> ∃ j, j < k /\ Ru.g (Ns.ends us) j = (k : Int))) := Lib.hid (HOk.out.trans ⟨fun c => c.2.2.2, fun c => ⟨cg, c7, fun x => c11 x.1, c⟩⟩)
        clear cg
        go_upto_region 12 with fail
        have HB4 := HB3
        generalize w3 = w4 at *
        have HPC4 : Hid (∀ j, j < us.length -> w4.cell? ⟨bC, oC + j, none⟩ = some (.int .i64 (Ru.g (Ns.ends us) j))) := Lib.hid fun j hj => (HB4.out.cell (p := ⟨bC, oC + j, none⟩) HBC.out).trans (HPC.out j hj)
        clear HOk HPC e0
        go_wp2_with fail
        go_loopw [7, 8] (fun v7 v8 wq => ∃ j : Nat, j <= k /\ v8 = .int .i64 j /\ v7 = .bool (Rl.strB (Ns.ends us) kd k j) /\ wq = w4) (fun _ v8 _ => k - (RowKit.intOf v8).toNat)
        case atStart => exact ⟨0, Nat.zero_le _, rfl, by rw [Rl.strB_0]; try rfl, rfl⟩
        case round =>
         obtain ⟨j, hj, rfl, rfl, rfl⟩ := hrel
         by_cases hjk : j < k
         ·have e1 := HPC4.out j (by omega)
          have hjc : (j : Int) < ((Ns.ends us).length : Int) := by rw [HEL.out]; omega
          by_cases hq : Ru.g (Ns.ends us) j = (k : Int)
          ·have HN := Lib.hid (Rl.strB_hit (kd := kd) hq)
           rw [hq] at e1
           clear hq
           go_wp2_with fail
           go_roundw
           case rel => exact ⟨j + 1, by omega, by go_num, by rw [HN.out], trivial⟩
           case measure => simp [RowKit.intOf]; omega
          ·have HN := Lib.hid (Rl.strB_on (kd := kd) hq)
           have qb : (Ru.g (Ns.ends us) j == (k : Int)) = false := beq_false_of_ne hq
           clear hq
           go_wp2_with fail
           go_roundw
           case rel => exact ⟨j + 1, by omega, by go_num, by rw [HN.out], trivial⟩
           case measure => simp [RowKit.intOf]; omega
         ·obtain rfl : k = j := by omega
          have HSY := Lib.hid (fun h => Rl.strB_yes (es := Ns.ends us) (kd := kd) (k := k) h)
          have HSN := Lib.hid (fun h => Rl.strB_no (es := Ns.ends us) (kd := kd) (k := k) h)
          generalize Rl.strB (Ns.ends us) kd k k = sb at *
          cases sb
          ·have HY := Lib.hid (HYes.out (HC.out.2 (HSN.out rfl)))
           clear HYes HNo HC HSY HSN
           go_wp2_with fail
           go_roundw
           case rel => exact ⟨k + 1, by omega, by go_num, HY, HB4⟩
           case measure => simp [RowKit.intOf]; omega
          ·have HV := Lib.hid (HNo.out (fun c => (HSY.out rfl).2 (HC.out.1 c (HSY.out rfl).1)))
           clear HYes HNo HC HSY HSN
           go_wp2_with fail
           go_ret
           exact ⟨by rw [HV.out]; rfl, below_next HB2.out HB4.out⟩
    ·have HV : Hid (b = true) := Lib.hid (HB.out.2 fun i hi => HK.out i (by omega))
     go_wp2_with fail
     go_ret
     exact ⟨by rw [HV.out]; rfl, below_next HB2.out HBk.out⟩
 ·have HV : Hid (b = false) := Lib.hid (by cases hb : b with | false => rfl | true => exact absurd (HSD.out.1 hb).1 hr)
  have CR := Lib.hid (rrightB_any us hF false (by simp [hr]) A cap w h)
  clear h hF CE hsd HSD
  go_enter Tryz.func21, Tryz.ntmps21
  go_wp2_with (first | (go_at_call 46; ((with_reducible refine (CR.out).mono ?_); rintro e w1 ⟨rfl, b1⟩; have HB1 := Lib.hid b1; clear b1)))
  go_ret
  exact ⟨by rw [HV.out]; rfl, HB1.out⟩
namespace Pr
open Ru Tk
def pt (ps : List PT) (k : Nat) : PT := ps.getD k (0, [], 0)
end Pr
theorem rightP_any (us : List Tk.Tok) (hF : Pr.FairB us) (hw : Pr.Wf us) (b : Bool) (hb : b = true ↔ Pr.RightU us) (A : Option Addr) (cap : Nat) (hc : us.length <= cap) (w : World) (hA : Ts w w.heap.size A us) (hT : PTab w.heap.size w) :
 Calls Tryz.prog 44 #[.slice A us.length cap] w (Bo b w) := by
 have CK := Lib.hid (kinds_any w)
 have CR : Hid (∀ M c w1, RtAt A us M c w1 -> Calls Tryz.prog 71 #[.slice A us.length cap, .map (some M)] w1 (Bo b w1)) := Lib.hid fun M c w1 h => right_any us hF hw b hb A cap hc M c w1 h
 have HA := Lib.hid hA
 have HT := Lib.hid hT
 clear hA hT hF hw hb
 go_enter Tryz.func44, Tryz.ntmps44
 go_wp2_with (first | (go_at_call 70; ((with_reducible refine (CK.out).mono ?_); rintro e w1 ⟨M, c, rfl, K1, hM, hc1, b1⟩; have C2 := Lib.hid (CR.out M c w1 ⟨HA.out.next b1, K1, hM, hc1, HT.out.next b1⟩))) | (go_at_call 71; ((with_reducible refine (C2.out).mono ?_); rintro e w2 ⟨rfl, b2⟩)))
 go_ret
 exact ⟨rfl, below_next b1 b2⟩
end Go.Proofs.YtkcabpjfgbghjaaGreatDoor
namespace Go.Proofs.YtkcabpjfgbghjaaGreatDoor
open Go.RowKit Go.Maps
theorem lawI : Keyed Tryz.prog 3 := int_keyed Tryz.underlying3
theorem zeroI (w : World) : (zeroValue 3).run Tryz.prog w = .ok (.int .i64 0) w := by kernel_rfl
def MapI (w : World) (M n : Nat) (D : DataW Unit) : Prop := w.ownsMap Tryz.prog 3 (plainElem Tryz.prog 3) M n D
theorem MapI.below {w w1 : World} {M n : Nat} {D : DataW Unit} (h : MapI w M n D) (hb : Below w.heap.size w w1) : MapI w1 M n D := by
 have hlt := h.lt
 obtain ⟨es, clock, h1, F, hs, hD⟩ := h
 exact ⟨es, clock, (hb.block M hlt).trans h1, F, hs, hD⟩
def ClD (es : List Int) (k : Nat) (D : DataW Unit) : Prop := IsMap D /\ ∀ x : Nat, Maps.has D (.int .i64 (x : Int)) = decide (∃ j, j < k /\ Ru.g es j = (x : Int))
theorem clD_0 (es : List Int) : ClD es 0 (.map []) := ⟨isMap_empty, fun x => by
 rw [decide_eq_false (fun ⟨j, h, _⟩ => absurd h (Nat.not_lt_zero _))]; rfl⟩
theorem clD_on {es : List Int} {k : Nat} {D : DataW Unit} (h : ClD es k D) (hk : Ru.g es k < 0) : ClD es (k + 1) D := ⟨h.1, fun x => by
 rw [h.2 x]
 refine decide_eq_decide.2 ⟨fun ⟨j, h1, h2⟩ => ⟨j, by omega, h2⟩, fun ⟨j, h1, h2⟩ => ⟨j, ?_, h2⟩⟩
 by_cases e : j = k
 ·subst e; omega
 ·omega⟩
theorem clD_put {es : List Int} {k : Nat} {D : DataW Unit} (h : ClD es k D) (d : DataW Unit) : ClD es (k + 1) (D.put (.int .i64 (Ru.g es k)) d) := ⟨h.1.put _ _, fun x => by
 by_cases e : Ru.g es k = (x : Int)
 ·rw [e, has_put_same h.1 (by simp [WideAt.IsKeyLit]), decide_eq_true ⟨k, Nat.lt_succ_self k, e⟩]
 ·rw [has_put_other (by intro c; injection c with _ c; exact e c.symm), h.2 x]
  refine decide_eq_decide.2 ⟨fun ⟨j, h1, h2⟩ => ⟨j, by omega, h2⟩, fun ⟨j, h1, h2⟩ => ⟨j, ?_, h2⟩⟩
  by_cases e2 : j = k
  ·subst e2; exact absurd h2 e
  ·omega⟩
theorem clD_has {es : List Int} {n k : Nat} {D : DataW Unit} (h : ClD es n D) : Maps.has D (.int .i64 (k : Int)) = true ↔ ∃ j, j < n /\ Ru.g es j = (k : Int) := by
 rw [h.2 k, decide_eq_true_iff]
def Rl.bkB (u : Tk.Tok) : Bool := decide (u.1 = 7 ∨ (u.1 = 11 /\ u.2.1 = ⟨#[92]⟩))
theorem slash_test (t : ByteArray) : (t.toList == [92]) = decide (t = ⟨#[92]⟩) := str_test t 92
theorem broken_any (u : Tk.Tok) (w : World) : Calls Tryz.prog 45 #[.agg #[.int .i64 u.1, .string u.2.1, .int .i64 u.2.2]] w (Bo (Rl.bkB u) w) := by
 obtain ⟨kd, t, n⟩ := u
 obtain ⟨W0, hW⟩ : ∃ W0, W0 = w.alloc (.cells #[.int .i64 kd, .string t, .int .i64 n] 61) := ⟨_, rfl⟩
 have hb0 : Below w.heap.size w W0 := by rw [hW]; exact (Below.refl _ _).alloc (Nat.le_refl _) _
 have k0 : W0.heap[w.heap.size]? = some (.cells #[.int .i64 kd, .string t, .int .i64 n] 61 (0, 0)) := by rw [hW]; exact heap_alloc_new w _
 obtain ⟨p0, p1, p2⟩ := tok3_cells k0
 have HB0 := Lib.hid hb0
 have HW := Lib.hid hW.symm
 clear hb0 k0 hW
 by_cases h7 : kd = 7
 ·have HV : Hid (Rl.bkB (kd, t, n) = true) := Lib.hid (decide_eq_true (.inl h7))
  rw [h7] at p0
  clear h7
  go_enter Tryz.func45, Tryz.ntmps45
  go_upto_region 1 with fail
  rw [HW.out]
  clear HW
  go_wp2_with fail
  go_ret
  exact ⟨by rw [HV.out]; rfl, HB0.out⟩
 ·have e7 : (kd == 7) = false := beq_false_of_ne h7
  by_cases h11 : kd = 11
  ·have ht := slash_test t
   have HV : Hid (Rl.bkB (kd, t, n) = decide (t = ⟨#[92]⟩)) := Lib.hid (decide_eq_decide.2 ⟨fun c => c.elim (fun c => absurd c h7) (fun c => c.2), fun c => .inr ⟨h11, c⟩⟩)
   generalize decide (t = ⟨#[92]⟩) = bb at *
   rw [h11] at p0
   clear h7 e7 h11
   go_enter Tryz.func45, Tryz.ntmps45
   go_upto_region 1 with fail
   rw [HW.out]
   clear HW
   go_wp2_with fail
   go_ret
   exact ⟨by rw [HV.out]; rfl, HB0.out⟩
  ·have HV : Hid (Rl.bkB (kd, t, n) = false) := Lib.hid (decide_eq_false (fun c => c.elim h7 (fun c => h11 c.1)))
   have e11 : (kd == 11) = false := beq_false_of_ne h11
   clear h7 h11
   go_enter Tryz.func45, Tryz.ntmps45
   go_upto_region 1 with fail
   rw [HW.out]
   clear HW
   go_wp2_with fail
   go_ret
   exact ⟨by rw [HV.out]; rfl, HB0.out⟩
theorem csound_any (sd : List Tk.Tok -> Bool) (hsd : Rl.SdIs sd) : SdK sd := fun us hF hwf A cap w hcap h hT => by
 have hm := hF.1
 have HEL := Lib.hid (Ns.ends_len us)
 have HSD := Lib.hid (hsd us)
 generalize sd us = b at *
 have H := Lib.hid h
 have CE : Hid (∀ W, Below w.heap.size w W -> Calls Tryz.prog 29 #[.slice A us.length cap] W (EndsIs us W)) := Lib.hid fun W hb => nends_code us (by omega) A cap W (h.next hb)
 by_cases hr : Pr.RightU us
 ·have CR := Lib.hid (rightP_any us hF hwf true (by simp [hr]) A cap hcap w h hT)
  by_cases hd : Ns.deep us
  ·have HV : Hid (b = false) := Lib.hid (by cases hb : b with | false => rfl | true => exact absurd hd (HSD.out.1 hb).2.1)
   have CE2 : Hid (∀ W, Below w.heap.size w W -> Calls Tryz.prog 29 #[.slice A us.length cap] W (EndsBad W)) := Lib.hid fun W hb => (CE.out W hb).mono fun e w' h => h.2 hd
   clear h hF CE hsd HSD hT hwf
   go_enter Tryz.func20, Tryz.ntmps20
   go_wp2_with (first | (go_at_call 44; ((with_reducible refine (CR.out).mono ?_); rintro e w1 ⟨rfl, b1⟩; have HB1 := Lib.hid b1; clear b1)) | (go_at_call 29; ((with_reducible refine (CE2.out _ HB1.out).mono ?_); rintro e w2 ⟨rfl, b2⟩; have HB2 := Lib.hid (below_next HB1.out b2); clear b2)))
   go_ret
   exact ⟨by rw [HV.out]; rfl, HB2.out⟩
  ·have CE2 : Hid (∀ W, Below w.heap.size w W -> Calls Tryz.prog 29 #[.slice A us.length cap] W (EndsRd us W)) := Lib.hid fun W hb => (CE.out W hb).mono fun e w' h => ends_rd (h.1 hd)
   have HB : Hid (b = true ↔ ∀ i, i < us.length -> Rl.okS us i) := Lib.hid ⟨fun h => (HSD.out.1 h).2.2, fun h => HSD.out.2 ⟨hr, hd, h⟩⟩
   have hmm := @run_makeMap Tryz.prog
   have HES : Hid (∀ j, j < us.length -> -1 <= Ru.g (Ns.ends us) j /\ Ru.g (Ns.ends us) j <= us.length) := Lib.hid fun j hj => by
    rcases Ns.ends_range hj with ⟨_, h2⟩ | ⟨_, h2, h3⟩
    ·have : Ru.g (Ns.ends us) j = -1 := h2
     omega
    ·have h4 : (j : Int) < Ru.g (Ns.ends us) j := h2
     have h5 : Ru.g (Ns.ends us) j <= us.length := h3
     omega
   clear h hF CE hsd HSD hT hwf
   go_enter Tryz.func20, Tryz.ntmps20
   go_wp2_with (first | (go_at_call 44; ((with_reducible refine (CR.out).mono ?_); rintro e w1 ⟨rfl, b1⟩; have HB1 := Lib.hid b1; clear b1)) | (go_at_call 29; ((with_reducible refine (CE2.out _ HB1.out).mono ?_); rintro e w2 ⟨A2, c2, rfl, hc2, B2, b2⟩; have HB2 := Lib.hid (below_next HB1.out b2); have HS2 := Lib.hid B2; clear b2 B2)))
   go_loopw [25] (fun v25 wr => ∃ k : Nat, k <= us.length /\ v25 = .int .i64 k /\ Hid (∀ j, j < k -> Ru.g (Ns.ends us) j ≠ (us.length : Int)) /\ (∃ D, Hid (MapI wr w2.heap.size k D) /\ Hid (ClD (Ns.ends us) k D)) /\ Hid (Below w2.heap.size w2 wr)) (fun v25 _ => us.length - (RowKit.intOf v25).toNat)
   case atStart => exact ⟨0, Nat.zero_le _, rfl, Lib.hid (fun j hj => by omega), ⟨_, Lib.hid (World.ownsMap_made _ _ _ _), Lib.hid (clD_0 _)⟩, Lib.hid ((Below.refl _ _).alloc (Nat.le_refl _) _)⟩
   case round =>
    obtain ⟨k, hk, rfl, HK, ⟨D, HD, HC⟩, HBk⟩ := hrel
    by_cases hlt : k < us.length
    ·obtain ⟨bC, oC, rfl, hbC, hpC⟩ := HS2.out (by rw [HEL.out]; omega)
     have e0 := (HBk.out.cell (p := ⟨bC, oC + k, none⟩) hbC).trans (hpC k (by rw [HEL.out]; exact hlt))
     have hec : (k : Int) < ((Ns.ends us).length : Int) := by rw [HEL.out]; omega
     have hes := HES.out k hlt
     clear hpC
     by_cases cg : Ru.g (Ns.ends us) k = (us.length : Int)
     ·have HV : Hid (b = false) := Lib.hid (by cases hb : b with | false => rfl | true => exact absurd cg (HB.out.1 hb k hlt).1)
      rw [cg] at e0
      clear cg HB HC HK
      go_wp2_with fail
      go_ret
      exact ⟨by rw [HV.out]; rfl, below_next HB2.out HBk.out⟩
     ·have gb : (Ru.g (Ns.ends us) k == (us.length : Int)) = false := beq_false_of_ne cg
      have HN : Hid (∀ j, j < k + 1 -> Ru.g (Ns.ends us) j ≠ (us.length : Int)) := Lib.hid fun j hj => by
       by_cases e : j = k
       ·subst e; exact cg
       ·exact HK.out j (by omega)
      clear cg
      by_cases c0 : 0 <= Ru.g (Ns.ends us) k
      ·have d1 : decide (0 <= Ru.g (Ns.ends us) k) = true := decide_eq_true c0
       have HC2 := Lib.hid (fun d => clD_put HC.out d)
       have hown : wr.ownsMap Tryz.prog 3 (plainElem Tryz.prog 3) w2.heap.size k D := HD.out
       have hkey : keyOf Tryz.prog 3 (.int .i64 (Ru.g (Ns.ends us) k)) = some (.int .i64 (Ru.g (Ns.ends us) k)) := keyOf_int_mk Tryz.underlying3 (WalkArith.wf_i64 (by omega))
       generalize Ru.g (Ns.ends us) k = ev at *
       clear HC HK
       go_wp2_with (at_mapUpdate; refine wpList_mapUpdate_own _ rfl _ _ _ 77 rfl 3 3 lawI Tryz.underlying77 _ w2.heap.size k _ rfl hown (by unfold maxLen; omega) _ _ _ rfl rfl hkey _ [] (plainElem_int Tryz.underlying3 (WalkArith.wf_i64 (by omega))) ?_; intro w3 hown3 hgrow3; have HD3 : Hid (MapI w3 w2.heap.size (k + 1) _) := Lib.hid hown3; have HB3 := Lib.hid (HBk.out.grown hgrow3 HBk.out.size (fun j hj => by cases hj; exact Nat.le_refl _)); clear hown3 hgrow3)
       go_roundw
       case rel => exact ⟨k + 1, by omega, by go_num, HN, ⟨_, HD3, Lib.hid (HC2.out _)⟩, HB3⟩
       case measure => simp [RowKit.intOf]; omega
      ·have d1 : decide (0 <= Ru.g (Ns.ends us) k) = false := decide_eq_false c0
       have HC2 := Lib.hid (clD_on HC.out (by omega))
       have HD2 : Hid (MapI wr w2.heap.size (k + 1) D) := Lib.hid (World.ownsMap.mono HD.out (Nat.le_succ k))
       generalize Ru.g (Ns.ends us) k = ev at *
       clear HC HK HD
       go_wp2_with fail
       go_roundw
       case rel => exact ⟨k + 1, by omega, by go_num, HN, ⟨D, HD2, HC2⟩, HBk⟩
       case measure => simp [RowKit.intOf]; omega
    ·obtain rfl : k = us.length := by omega
     have HRG : Hid (∀ i, i < us.length -> 0 <= Ru.g (Ns.ends us) i -> (i : Int) < Ru.g (Ns.ends us) i) := Lib.hid fun i hi h0 => by
      rcases Ns.ends_range hi with ⟨_, h2⟩ | ⟨_, h2, _⟩
      ·have : Ru.g (Ns.ends us) i = -1 := h2
       omega
      ·exact h2
     have HHas : Hid (∀ j : Nat, Maps.has D (.int .i64 (j : Int)) = true ↔ ∃ i, i < j /\ Ru.g (Ns.ends us) i = (j : Int)) := Lib.hid fun j => (clD_has HC.out).trans ⟨fun ⟨i, h1, h2⟩ => ⟨i, by have := HRG.out i h1 (by omega); omega, h2⟩, fun ⟨i, h1, h2⟩ => by
      by_cases hil : i < us.length
      ·exact ⟨i, hil, h2⟩
      ·exfalso
       have : Ru.g (Ns.ends us) i = 0 := by
        unfold Ru.g
        rw [List.getD_eq_getElem?_getD, List.getElem?_eq_none (by rw [HEL.out]; omega)]; rfl
       omega⟩
     have hlen9 : decide ((us.length : Int) < ((Ns.ends us).length : Int)) = false := decide_eq_false (by rw [HEL.out]; omega)
     have hlen8 : ¬ ((us.length : Int) < ((Ns.ends us).length : Int)) := by rw [HEL.out]; omega
     clear HC HRG HES
     go_wp2_with fail
     clear hlen9 hlen8
     go_loopw [42] (fun v42 wq => ∃ j : Nat, j <= us.length /\ v42 = .int .i64 j /\ Hid (∀ i, i < j -> Rl.okS us i) /\ Hid (MapI wq w2.heap.size us.length D) /\ Hid (Below w2.heap.size w2 wq)) (fun v42 _ => us.length - (RowKit.intOf v42).toNat)
     case atStart => exact ⟨0, Nat.zero_le _, rfl, Lib.hid (fun j hj => by omega), HD, HBk⟩
     case round =>
      obtain ⟨j, hj, rfl, HJ, HM, HBj⟩ := hrel
      by_cases hjl : j < us.length
      ·have HBW := Lib.hid (below_next HB2.out HBj.out)
       obtain ⟨bb, off, rfl, hbb, hp⟩ := H.out (by omega)
       obtain ⟨p0, p1, p2⟩ := hp j hjl
       replace p0 := (HBW.out.cell (p := ⟨bb, off + j * 3, none⟩) hbb).trans p0
       replace p1 := (HBW.out.cell (p := ⟨bb, off + j * 3 + 1, none⟩) hbb).trans p1
       replace p2 := (HBW.out.cell (p := ⟨bb, off + j * 3 + 2, none⟩) hbb).trans p2
       have HOk : Hid (Rl.okS us j ↔ (Rl.bkB (Tk.tk us j) = false /\ ((Tk.tk us j).1 = 13 -> Maps.has D (.int .i64 (j : Int)) = true))) := Lib.hid ⟨fun ⟨_, c2, c3, c4⟩ => ⟨decide_eq_false (fun c => c.elim c2 c3), fun c => (HHas.out j).2 (c4 c)⟩, fun ⟨c1, c2⟩ => ⟨HK.out j hjl, fun c => of_decide_eq_false c1 (.inl c), fun c => of_decide_eq_false c1 (.inr c), fun c => (HHas.out j).1 (c2 c)⟩⟩
       have HNo : Hid (¬ Rl.okS us j -> b = false) := Lib.hid fun hn => by cases hb : b with | false => rfl | true => exact absurd (HB.out.1 hb j hjl) hn
       have HYes : Hid (Rl.okS us j -> ∀ i, i < j + 1 -> Rl.okS us i) := Lib.hid fun hy i hi => by
        by_cases hi2 : i < j
        ·exact HJ.out i hi2
        ·obtain rfl : i = j := by omega
         exact hy
       have CBk : Hid (∀ W, Calls Tryz.prog 45 #[.agg #[.int .i64 (Tk.tk us j).1, .string (Tk.tk us j).2.1, .int .i64 (Tk.tk us j).2.2]] W (Bo (Rl.bkB (Tk.tk us j)) W)) := Lib.hid fun W => broken_any _ W
       have hkey : keyOf Tryz.prog 3 (.int .i64 (j : Int)) = some (.int .i64 (j : Int)) := keyOf_int_mk Tryz.underlying3 (WalkArith.wf_i64 (by omega))
       clear hp hbb
       generalize Rl.bkB (Tk.tk us j) = bk at *
       generalize Tk.tk us j = u at *
       obtain ⟨kd, t, n⟩ := u
       simp only at p0 p1 p2 HOk CBk
       go_upto_region 18 with fail
       have k3 := heap_alloc_new wr (.cells #[.int .i64 kd, .string t, .int .i64 n] 61)
       have b3 := (Below.refl wr.heap.size wr).alloc (Nat.le_refl _) (.cells #[.int .i64 kd, .string t, .int .i64 n] 61)
       generalize wr.alloc (.cells #[.int .i64 kd, .string t, .int .i64 n] 61) = w3 at k3 b3 ⊢
       have HK3 := Lib.hid k3
       obtain ⟨y0, y1, y2⟩ := tok3_cells k3
       have HB3 := Lib.hid (below_next HBj.out b3)
       have HM3 := Lib.hid (HM.out.below b3)
       have hown : w3.ownsMap Tryz.prog 3 (plainElem Tryz.prog 3) w2.heap.size us.length D := HM3.out
       have hs3 : wr.heap.size < w3.heap.size := (Array.getElem?_eq_some_iff.1 k3).1
       clear p0 p1 p2 k3 b3 CR CE2 HM HK HHas
       cases bk
       ·by_cases h13 : kd = 13
        ·subst h13
         generalize hhs : Maps.has D (.int .i64 (j : Int)) = hs at *
         cases hs
         ·have HV := Lib.hid (HNo.out (fun c => by have := (HOk.out.1 c).2 rfl; cases this))
          clear HNo HYes HOk
          go_wp2_with (first | (at_lookup; refine wpList_lookup_own_ok_int _ rfl _ _ 77 rfl 3 3 .i64 lawI Tryz.underlying77 Tryz.underlying3 (zeroI _) w2.heap.size us.length D rfl hown _ _ rfl hkey ?_; intro c hat hwc; rw [hhs]; clear hat hwc) | (go_at_call 45; ((with_reducible refine (CBk.out _).mono ?_); rintro e w4 ⟨rfl, b4⟩; have HB4 := Lib.hid (below_next HB3.out b4); have z0 := (b4.cell (p := ⟨wr.heap.size, 0, none⟩) hs3).trans y0; clear b4)))
          go_ret
          exact ⟨by rw [HV.out]; rfl, below_next HB2.out HB4.out⟩
         ·have HY := Lib.hid (HYes.out (HOk.out.2 ⟨rfl, fun _ => rfl⟩))
          clear HNo HYes HOk
          go_wp2_with (first | (at_lookup; refine wpList_lookup_own_ok_int _ rfl _ _ 77 rfl 3 3 .i64 lawI Tryz.underlying77 Tryz.underlying3 (zeroI _) w2.heap.size us.length D rfl hown _ _ rfl hkey ?_; intro c hat hwc; rw [hhs]; clear hat hwc) | (go_at_call 45; ((with_reducible refine (CBk.out _).mono ?_); rintro e w4 ⟨rfl, b4⟩; have HB4 := Lib.hid (below_next HB3.out b4); have HM4 := Lib.hid (HM3.out.below b4); have z0 := (b4.cell (p := ⟨wr.heap.size, 0, none⟩) hs3).trans y0; clear b4)))
          go_roundw
          case rel => exact ⟨j + 1, by omega, by go_num, HY, HM4, HB4⟩
          case measure => simp [RowKit.intOf]; omega
        ·have e13 : (kd == 13) = false := beq_false_of_ne h13
         have HY := Lib.hid (HYes.out (HOk.out.2 ⟨rfl, fun c => absurd c h13⟩))
         clear HNo HYes HOk h13
         go_wp2_with (first | (at_lookup; refine wpList_lookup_own_ok_int _ rfl _ _ 77 rfl 3 3 .i64 lawI Tryz.underlying77 Tryz.underlying3 (zeroI _) w2.heap.size us.length D rfl hown _ _ rfl hkey ?_; intro c hat hwc; clear hat hwc) | (go_at_call 45; ((with_reducible refine (CBk.out _).mono ?_); rintro e w4 ⟨rfl, b4⟩; have HB4 := Lib.hid (below_next HB3.out b4); have HM4 := Lib.hid (HM3.out.below b4); have z0 := (b4.cell (p := ⟨wr.heap.size, 0, none⟩) hs3).trans y0; clear b4)))
         go_roundw
         case rel => exact ⟨j + 1, by omega, by go_num, HY, HM4, HB4⟩
         case measure => simp [RowKit.intOf]; omega
       ·have HV := Lib.hid (HNo.out (fun c => by have := (HOk.out.1 c).1; cases this))
        clear HNo HYes HOk
        go_wp2_with (first | (at_lookup; refine wpList_lookup_own_ok_int _ rfl _ _ 77 rfl 3 3 .i64 lawI Tryz.underlying77 Tryz.underlying3 (zeroI _) w2.heap.size us.length D rfl hown _ _ rfl hkey ?_; intro c hat hwc; clear hat hwc) | (go_at_call 45; ((with_reducible refine (CBk.out _).mono ?_); rintro e w4 ⟨rfl, b4⟩; have HB4 := Lib.hid (below_next HB3.out b4); clear b4)))
        go_ret
        exact ⟨by rw [HV.out]; rfl, below_next HB2.out HB4.out⟩
      ·obtain rfl : us.length = j := by omega
       have HV : Hid (b = true) := Lib.hid (HB.out.2 HJ.out)
       clear HB HK HHas HJ
       go_wp2_with fail
       go_ret
       exact ⟨by rw [HV.out]; rfl, below_next HB2.out HBj.out⟩
 ·have HV : Hid (b = false) := Lib.hid (by cases hb : b with | false => rfl | true => exact absurd (HSD.out.1 hb).1 hr)
  have CR := Lib.hid (rightP_any us hF hwf false (by simp [hr]) A cap hcap w h hT)
  clear h hF CE hsd HSD hT hwf
  go_enter Tryz.func20, Tryz.ntmps20
  go_wp2_with (go_at_call 44; ((with_reducible refine (CR.out).mono ?_); rintro e w1 ⟨rfl, b1⟩; have HB1 := Lib.hid b1; clear b1))
  go_ret
  exact ⟨by rw [HV.out]; rfl, HB1.out⟩
end Go.Proofs.YtkcabpjfgbghjaaGreatDoor
namespace Go.Proofs.YtkcabpjfgbghjaaGreatDoor
open Go.RowKit
theorem take_ext {α : Type} {ds es : List α} {k : Nat} (h1 : k < ds.length) (h2 : k < es.length) (h : ds.take k = es.take k) (e : ds[k] = es[k]) : ds.take (k + 1) = es.take (k + 1) := by
 rw [List.take_add_one, List.take_add_one, h, List.getElem?_eq_getElem h1, List.getElem?_eq_getElem h2, e]
theorem ext_ne {α : Type} {ds es : List α} {k : Nat} (h1 : k < ds.length) (h2 : k < es.length) (e : ds[k] ≠ es[k]) : ds ≠ es := fun c => by
 subst c; exact e rfl
theorem ext_all {α : Type} {ds es : List α} (hl : ds.length = es.length) (h : ds.take ds.length = es.take ds.length) : ds = es := by
 rw [List.take_length, hl, List.take_length] at h
 exact h
theorem tequal_any (us vs : List Tk.Tok) (A C : Option Addr) (ca cb : Nat) (w : World) (hm : us.length <= 65536) (hA : Ts w w.heap.size A us) (hC : Ts w w.heap.size C vs) :
 Calls Tryz.prog 65 #[.slice A us.length ca, .slice C vs.length cb] w (Bo (decide (us = vs)) w) := by
 have HA := Lib.hid hA
 have HC := Lib.hid hC
 clear hA hC
 by_cases hl : us.length = vs.length
 ·have hle : ((us.length : Int) == (vs.length : Int)) = true := by rw [hl]; simp
  have HL := Lib.hid hl
  have HD : Hid (∀ k (h1 : k < us.length) (h2 : k < vs.length), us[k] ≠ vs[k] -> decide (us = vs) = false) := Lib.hid fun k h1 h2 hne => decide_eq_false (ext_ne h1 h2 hne)
  have HE : Hid (us.take us.length = vs.take us.length -> decide (us = vs) = true) := Lib.hid fun h => decide_eq_true (ext_all HL.out h)
  generalize decide (us = vs) = res at *
  have HLv : Hid (vs.length = us.length) := Lib.hid hl.symm
  clear hl hle
  rw [HLv.out]
  go_enter Tryz.func65, Tryz.ntmps65
  go_wp2_with fail
  go_loopw [13] (fun v13 wr => ∃ k : Nat, k <= us.length /\ v13 = .int .i64 k /\ Hid (us.take k = vs.take k) /\ Hid (Below w.heap.size w wr)) (fun v13 _ => us.length - (RowKit.intOf v13).toNat)
  case atStart => exact ⟨0, Nat.zero_le _, rfl, Lib.hid rfl, Lib.hid (Below.refl _ _)⟩
  case round =>
   obtain ⟨k, hk, rfl, HK, HB⟩ := hrel
   by_cases hlt : k < us.length
   ·have hlv : k < vs.length := by rw [HLv.out]; exact hlt
    have hki : (k : Int) < (us.length : Int) := by omega
    obtain ⟨b, off, rfl, _, hp⟩ := HA.out.next HB.out (by omega)
    obtain ⟨b2, off2, rfl, _, hp2⟩ := HC.out.next HB.out (by rw [HLv.out]; omega)
    obtain ⟨p0, p1, p2⟩ := hp k hlt
    obtain ⟨q0, q1, q2⟩ := hp2 k hlv
    have HN := Lib.hid (take_ext hlt hlv HK.out)
    have HX := Lib.hid (HD.out k hlt hlv)
    rw [Tk.tk_eq hlt] at p0 p1 p2
    rw [Tk.tk_eq hlv] at q0 q1 q2
    clear hp hp2 HD HE HK
    generalize us[k] = x at *
    generalize vs[k] = y at *
    clear hlv
    obtain ⟨xk, xt, xn⟩ := x
    obtain ⟨yk, yt, yn⟩ := y
    simp only at p0 p1 p2 q0 q1 q2
    by_cases e1 : xk = yk
    ·by_cases e2 : xt = yt
     ·by_cases e3 : xn = yn
      ·have HN2 := Lib.hid (HN.out (by rw [e1, e2, e3]))
       subst e1 e2 e3
       clear HN HX
       go_wp2_with fail
       go_quiet (fail)
       go_wp2_with fail
       go_roundw
       case rel => exact ⟨k + 1, by omega, by go_num, HN2, Lib.hid (below_drewN HB.out _)⟩
       case measure => simp [RowKit.intOf]; omega
      ·have HV := Lib.hid (HX.out (fun c => e3 (by injection c with _ c; injection c)))
       have g3 : (xn == yn) = false := beq_false_of_ne e3
       subst e1 e2
       clear HN HX e3
       go_wp2_with fail
       go_quiet (fail)
       go_wp2_with fail
       go_ret
       exact ⟨by rw [HV.out]; rfl, below_drewN HB.out _⟩
     ·have HV := Lib.hid (HX.out (fun c => e2 (by injection c with _ c; injection c)))
      have g2 : (xt.toList == yt.toList) = false := by rw [str_same]; exact decide_eq_false e2
      subst e1
      clear HN HX e2
      go_wp2_with fail
      go_quiet (fail)
      go_wp2_with fail
      go_ret
      exact ⟨by rw [HV.out]; rfl, below_drewN HB.out _⟩
    ·have HV := Lib.hid (HX.out (fun c => e1 (by injection c)))
     have g1 : (xk == yk) = false := beq_false_of_ne e1
     clear HN HX e1
     go_wp2_with fail
     go_quiet (fail)
     go_wp2_with fail
     go_ret
     exact ⟨by rw [HV.out]; rfl, below_drewN HB.out _⟩
   ·obtain rfl : us.length = k := by omega
    have HV := Lib.hid (HE.out HK.out)
    clear HD HE HK
    go_wp2_with fail
    go_ret
    exact ⟨by rw [HV.out]; rfl, HB.out⟩
 ·have HV : Hid (decide (us = vs) = false) := Lib.hid (decide_eq_false (fun c => hl (by rw [c])))
  have g : ((us.length : Int) == (vs.length : Int)) = false := beq_false_of_ne (by omega)
  have g2 : (us.length == vs.length) = false := beq_false_of_ne hl
  generalize decide (us = vs) = res at *
  clear hl
  go_enter Tryz.func65, Tryz.ntmps65
  go_wp2_with fail
  go_ret
  exact ⟨by rw [HV.out]; rfl, Below.refl _ _⟩
end Go.Proofs.YtkcabpjfgbghjaaGreatDoor
