/-
  The walk of print's right.
-/
import Derived.Test.YtkcabpjfgbghjaaGreatDoorGag
import Derived.Deep.RegionWith
import Derived.IntWalk
namespace Go.Proofs.YtkcabpjfgbghjaaGreatDoor
set_option maxHeartbeats 16000000
set_option maxRecDepth 100000
open Go.RowKit
namespace Pr
open Ru Tk
def OkAt (us : List Tok) (j : Nat) : Prop := OneU (tk us j) /\ stnB (tk us j).1 (tk us j).2.1 (nxK us (j + 1)) = true
def RightU (us : List Tok) : Prop := us.length <= 16384 /\ ∀ j, j < us.length -> OkAt us j
end Pr
structure RtAt (A : Option Addr) (us : List Tk.Tok) (M c : Nat) (w : World) : Prop where
 ts : Ts w w.heap.size A us
 k : Kinds w M c
 ml : M < w.heap.size
 cl : c < w.heap.size
 t : PTab w.heap.size w
theorem RtAt.next {A : Option Addr} {us : List Tk.Tok} {M c : Nat} {w w1 : World} (h : RtAt A us M c w) (hb : Below w.heap.size w w1) : RtAt A us M c w1 :=
 ⟨h.ts.next hb, h.k.below hb h.ml h.cl, Nat.lt_of_lt_of_le h.ml hb.size, Nat.lt_of_lt_of_le h.cl hb.size, h.t.next hb⟩
theorem right_any (us : List Tk.Tok) (hF : Pr.FairB us) (hw : Pr.Wf us) (b : Bool) (hb : b = true ↔ Pr.RightU us) (A : Option Addr) (cap : Nat) (hc : us.length <= cap) (M c : Nat) (w : World) (h : RtAt A us M c w) :
 Calls Tryz.prog 71 #[.slice A us.length cap, .map (some M)] w (Bo b w) := by
 have hm := hF.1
 have H := Lib.hid h
 have HF := Lib.hid hF.2
 have HWf := Lib.hid hw
 have HBb := Lib.hid hb
 clear h hF hw hb
 go_enter Tryz.func71, Tryz.ntmps71
 go_wp2_with fail
 go_loopw [12] (fun v12 wr => ∃ k : Nat, k <= us.length /\ v12 = .int .i64 k /\ Hid (∀ j, j < k -> Pr.OkAt us j) /\ Hid (Below w.heap.size w wr)) (fun v12 _ => us.length - (RowKit.intOf v12).toNat)
 case atStart => exact ⟨0, Nat.zero_le _, rfl, Lib.hid (fun j hj => by omega), Lib.hid (Below.refl _ _)⟩
 case round =>
  obtain ⟨k, hk, rfl, HK, HB⟩ := hrel
  by_cases hlt : k < us.length
  ·have HR := Lib.hid (H.out.next HB.out)
   obtain ⟨A', hsl, hhd⟩ := tail_slice HR.out.ts hlt hc
   obtain ⟨bb, off, rfl, hbb, hp⟩ := HR.out.ts (by omega)
   obtain ⟨p0, p1, p2⟩ := hp k hlt
   have hsz := HF.out k hlt
   have hwf := HWf.out k hlt
   have HOk : Hid (Pr.OkAt us k ↔ (Pr.OneU (Tk.tk us k) /\ Pr.stnB (Tk.tk us k).1 (Tk.tk us k).2.1 (Pr.nxK us (k + 1)) = true)) := Lib.hid Iff.rfl
   clear hp
   have HHd := Lib.hid hhd
   clear hhd
   generalize Pr.nxK us (k + 1) = nx at *
   generalize Tk.tk us k = u at *
   obtain ⟨kd, t, n⟩ := u
   simp only at p0 p1 p2 hsz hwf HOk
   obtain ⟨W0, hW⟩ : ∃ W0, W0 = wr.alloc (.cells #[.int .i64 kd, .string t, .int .i64 n] 61) := ⟨_, rfl⟩
   have hb0 : Below wr.heap.size wr W0 := by rw [hW]; exact (Below.refl _ _).alloc (Nat.le_refl _) _
   have hs0 : wr.heap.size < W0.heap.size := by rw [hW]; simp
   obtain ⟨q0, q1, q2⟩ := three_cells (w := wr) (x := .int .i64 kd) (y := .string t) (z := .int .i64 n) (E := 61)
   rw [<- hW] at q0 q1 q2
   have HR0 := Lib.hid (HR.out.next hb0)
   have HB0 := Lib.hid (below_next HB.out hb0)
   have hlk := kinds_look (w := W0.drew) (HR0.out.next (Below.refl _ _).drew).k kd hwf.1
   have CS : Hid (∀ w1, Below W0.heap.size W0 w1 -> Calls Tryz.prog 135 #[.agg #[.int .i64 kd, .string t, .int .i64 n], .slice A' (us.length - (k + 1)) (cap - (k + 1))] w1 (Bo (Pr.stnB kd t nx) w1)) := Lib.hid fun w1 h1 => stands_any kd n t A' _ _ nx w1 ((HHd.out.next hb0).next h1) (by omega)
   by_cases ho : Pr.OneU (kd, t, n)
   ·have CF : Hid (Calls Tryz.prog 134 #[kindAt c kd, .agg #[.int .i64 kd, .string t, .int .i64 n]] W0.drew (Bo true W0.drew)) := Lib.hid (fits_at c kd n t true (by simp; exact ho) (by omega) W0.drew (HR0.out.next (Below.refl _ _).drew).t.u)
    generalize kindAt c kd = kv at *
    cases hst : Pr.stnB kd t nx
    ·rw [hst] at CS
     obtain rfl : b = false := by
      rw [Bool.eq_false_iff]
      intro hh
      have := (HOk.out.1 ((HBb.out.1 hh).2 k hlt)).2
      rw [hst] at this; cases this
     clear HBb HOk hst HK HHd ho HR HWf HF H HR0 hb0
     go_upto_region 6 with fail
     rw [<- hW]
     clear hW
     have hwr : IntKind.i64.wrap ((k : Int) + 1) = (k : Int) + 1 := IntWalk.i64_in _ (by omega)
     go_region_with (first | (go_at_call 134; ((with_reducible refine (CF.out).mono ?_); rintro e w1 ⟨rfl, b1⟩; have r0 := (b1.cell (p := ⟨wr.heap.size, 0, none⟩) hs0).trans q0; have r1 := (b1.cell (p := ⟨wr.heap.size, 1, none⟩) hs0).trans q1; have r2 := (b1.cell (p := ⟨wr.heap.size, 2, none⟩) hs0).trans q2; have HB1 := Lib.hid ((Below.refl W0.heap.size W0).drew.trans b1))) | (go_at_call 135; ((with_reducible refine (CS.out _ HB1.out).mono ?_); rintro e w2 ⟨rfl, b2⟩)))
     all_goals
      go_wp2_with fail
      go_ret
      exact ⟨rfl, below_next HB0.out (below_next HB1.out b2)⟩
    ·rw [hst] at CS
     have HK2 : Hid (∀ j, j < k + 1 -> Pr.OkAt us j) := Lib.hid fun j hj => by
      by_cases hj2 : j < k
      ·exact HK.out j hj2
      ·obtain rfl : j = k := by omega
       exact HOk.out.2 ⟨ho, hst⟩
     clear HBb HOk hst HK HHd ho HR HWf HF H HR0 hb0
     go_upto_region 6 with fail
     rw [<- hW]
     clear hW
     have hwr : IntKind.i64.wrap ((k : Int) + 1) = (k : Int) + 1 := IntWalk.i64_in _ (by omega)
     go_region_with (first | (go_at_call 134; ((with_reducible refine (CF.out).mono ?_); rintro e w1 ⟨rfl, b1⟩; have r0 := (b1.cell (p := ⟨wr.heap.size, 0, none⟩) hs0).trans q0; have r1 := (b1.cell (p := ⟨wr.heap.size, 1, none⟩) hs0).trans q1; have r2 := (b1.cell (p := ⟨wr.heap.size, 2, none⟩) hs0).trans q2; have HB1 := Lib.hid ((Below.refl W0.heap.size W0).drew.trans b1))) | (go_at_call 135; ((with_reducible refine (CS.out _ HB1.out).mono ?_); rintro e w2 ⟨rfl, b2⟩)))
     all_goals
      clear hwr
      go_wp2_with fail
      go_roundw
      case rel => exact ⟨k + 1, by omega, by go_num, HK2, Lib.hid (below_next HB0.out (below_next HB1.out b2))⟩
      case measure => simp [RowKit.intOf]; omega
   ·have CF : Hid (Calls Tryz.prog 134 #[kindAt c kd, .agg #[.int .i64 kd, .string t, .int .i64 n]] W0.drew (Bo false W0.drew)) := Lib.hid (fits_at c kd n t false (by simp; exact ho) (by omega) W0.drew (HR0.out.next (Below.refl _ _).drew).t.u)
    generalize kindAt c kd = kv at *
    obtain rfl : b = false := by
     rw [Bool.eq_false_iff]
     intro hh
     exact ho (HOk.out.1 ((HBb.out.1 hh).2 k hlt)).1
    clear HBb HOk HK HHd ho HR HWf HF H HR0 hb0
    go_upto_region 6 with fail
    rw [<- hW]
    clear hW
    have hwr : IntKind.i64.wrap ((k : Int) + 1) = (k : Int) + 1 := IntWalk.i64_in _ (by omega)
    first | (go_region_with (go_at_call 134; ((with_reducible refine (CF.out).mono ?_); rintro e w1 ⟨rfl, b1⟩; have HB1 := Lib.hid ((Below.refl W0.heap.size W0).drew.trans b1)))) | fail
    all_goals
     go_wp2_with fail
     go_ret
     exact ⟨rfl, below_next HB0.out HB1.out⟩
  ·obtain rfl : b = true := HBb.out.2 ⟨by omega, fun j hj => HK.out j (by omega)⟩
   clear HBb HK HWf HF H
   go_wp2_with fail
   go_ret
   exact ⟨rfl, HB.out⟩
end Go.Proofs.YtkcabpjfgbghjaaGreatDoor
