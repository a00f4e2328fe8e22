/-
  The walks of package rules' broken and Sound.
-/
import Derived.Test.YtllmjggejbdpcaaGreatDoorGal
import Derived.Test.YtllmjggejbdpcaaGreatDoorGaf
import Derived.Test.YtllmjggejbdpcaaGreatDoorGah
import Derived.Test.YtllmjggejbdpcaaGreatDoorGaj
import Derived.Maps.OwnOps
import Derived.Maps.OwnSet
import Derived.WalkArith
import Derived.Test.YtllmjggejbdpcaaGreatDoorGad
import Derived.Test.YtllmjggejbdpcaaGreatDoorGae
import Derived.Laws.StructEq
import Derived.Deep.QuietTactic
import Derived.BigQuiet
import Derived.LoopTactic
import Derived.Test.YtllmjggejbdpcaaGreatDoorGag
import Derived.Test.YtllmjggejbdpcaaGreatDoorGai
import Derived.Test.YtllmjggejbdpcaaGreatDoorGac
import Derived.Shelf.Spec.DecodeRune
import Derived.Shelf.Spec.RuneCount
import Derived.Shelf.Spec.NilArms
import Derived.Test.YtllmjggejbdpcaaGreatDoorGab
set_option maxHeartbeats 16000000
set_option maxRecDepth 100000
namespace Go.Proofs.YtllmjggejbdpcaaGreatDoor
open Go.RowKit Go.Maps
theorem lawI : Keyed Tryz.prog 3 := int_keyed Tryz.underlying3
theorem zeroI (w : World) : (zeroValue 3).run Tryz.prog w = .ok (.int .i64 0) w := by kernel_rfl
def MapI (w : World) (M n : Nat) (D : DataW Unit) : Prop := w.ownsMap Tryz.prog 3 (plainElem Tryz.prog 3) M n D
theorem MapI.below {w w1 : World} {M n : Nat} {D : DataW Unit} (h : MapI w M n D) (hb : Below w.heap.size w w1) : MapI w1 M n D := by
 have hlt := h.lt
 obtain ⟨es, clock, h1, F, hs, hD⟩ := h
 exact ⟨es, clock, (hb.block M hlt).trans h1, F, hs, hD⟩
def ClD (es : List Int) (k : Nat) (D : DataW Unit) : Prop := IsMap D /\ ∀ x : Nat, Maps.has D (.int .i64 (x : Int)) = decide (∃ j, j < k /\ Ru.g es j = (x : Int))
theorem clD_0 (es : List Int) : ClD es 0 (.map []) := ⟨isMap_empty, fun x => by
 rw [decide_eq_false (fun ⟨j, h, _⟩ => absurd h (Nat.not_lt_zero _))]; rfl⟩
theorem clD_on {es : List Int} {k : Nat} {D : DataW Unit} (h : ClD es k D) (hk : Ru.g es k < 0) : ClD es (k + 1) D := ⟨h.1, fun x => by
 rw [h.2 x]
 refine decide_eq_decide.2 ⟨fun ⟨j, h1, h2⟩ => ⟨j, by omega, h2⟩, fun ⟨j, h1, h2⟩ => ⟨j, ?_, h2⟩⟩
 by_cases e : j = k
 ·subst e; omega
 ·omega⟩
theorem clD_put {es : List Int} {k : Nat} {D : DataW Unit} (h : ClD es k D) (d : DataW Unit) : ClD es (k + 1) (D.put (.int .i64 (Ru.g es k)) d) := ⟨h.1.put _ _, fun x => by
 by_cases e : Ru.g es k = (x : Int)
 ·rw [e, has_put_same h.1 (by simp [WideAt.IsKeyLit]), decide_eq_true ⟨k, Nat.lt_succ_self k, e⟩]
 ·rw [has_put_other (by intro c; injection c with _ c; exact e c.symm), h.2 x]
  refine decide_eq_decide.2 ⟨fun ⟨j, h1, h2⟩ => ⟨j, by omega, h2⟩, fun ⟨j, h1, h2⟩ => ⟨j, ?_, h2⟩⟩
  by_cases e2 : j = k
  ·subst e2; exact absurd h2 e
  ·omega⟩
theorem clD_has {es : List Int} {n k : Nat} {D : DataW Unit} (h : ClD es n D) : Maps.has D (.int .i64 (k : Int)) = true ↔ ∃ j, j < n /\ Ru.g es j = (k : Int) := by
 rw [h.2 k, decide_eq_true_iff]
def Rl.bkB (u : Tk.Tok) : Bool := decide (u.1 = 7 ∨ (u.1 = 11 /\ u.2.1 = ⟨#[92]⟩))
theorem slash_test (t : ByteArray) : (t.toList == [92]) = decide (t = ⟨#[92]⟩) := str_test t 92
theorem broken_any (u : Tk.Tok) (w : World) : Calls Tryz.prog 44 #[.agg #[.int .i64 u.1, .string u.2.1, .int .i64 u.2.2]] w (Bo (Rl.bkB u) w) := by
 obtain ⟨kd, t, n⟩ := u
 obtain ⟨W0, hW⟩ : ∃ W0, W0 = w.alloc (.cells #[.int .i64 kd, .string t, .int .i64 n] 70) := ⟨_, rfl⟩
 have hb0 : Below w.heap.size w W0 := by rw [hW]; exact (Below.refl _ _).alloc (Nat.le_refl _) _
 have k0 : W0.heap[w.heap.size]? = some (.cells #[.int .i64 kd, .string t, .int .i64 n] 70 (0, 0)) := by rw [hW]; exact heap_alloc_new w _
 obtain ⟨p0, p1, p2⟩ := tok3_cells k0
 have HB0 := Lib.hid hb0
 have HW := Lib.hid hW.symm
 clear hb0 k0 hW
 by_cases h7 : kd = 7
 ·have HV : Hid (Rl.bkB (kd, t, n) = true) := Lib.hid (decide_eq_true (.inl h7))
  rw [h7] at p0
  clear h7
  go_enter Tryz.func44, Tryz.ntmps44
  go_upto_region 1 with fail
  rw [HW.out]
  clear HW
  go_wp2_with fail
  go_ret
  exact ⟨by rw [HV.out]; rfl, HB0.out⟩
 ·have e7 : (kd == 7) = false := beq_false_of_ne h7
  by_cases h11 : kd = 11
  ·have ht := slash_test t
   have HV : Hid (Rl.bkB (kd, t, n) = decide (t = ⟨#[92]⟩)) := Lib.hid (decide_eq_decide.2 ⟨fun c => c.elim (fun c => absurd c h7) (fun c => c.2), fun c => .inr ⟨h11, c⟩⟩)
   generalize decide (t = ⟨#[92]⟩) = bb at *
   rw [h11] at p0
   clear h7 e7 h11
   go_enter Tryz.func44, Tryz.ntmps44
   go_upto_region 1 with fail
   rw [HW.out]
   clear HW
   go_wp2_with fail
   go_ret
   exact ⟨by rw [HV.out]; rfl, HB0.out⟩
  ·have HV : Hid (Rl.bkB (kd, t, n) = false) := Lib.hid (decide_eq_false (fun c => c.elim h7 (fun c => h11 c.1)))
   have e11 : (kd == 11) = false := beq_false_of_ne h11
   clear h7 h11
   go_enter Tryz.func44, Tryz.ntmps44
   go_upto_region 1 with fail
   rw [HW.out]
   clear HW
   go_wp2_with fail
   go_ret
   exact ⟨by rw [HV.out]; rfl, HB0.out⟩
theorem csound_any (sd : List Tk.Tok -> Bool) (hsd : Rl.SdIs sd) : SdK sd := fun us hF hwf A cap w hcap h hT => by
 have hm := hF.1
 have HEL := Lib.hid (Ns.ends_len us)
 have HSD := Lib.hid (hsd us)
 generalize sd us = b at *
 have H := Lib.hid h
 have CE : Hid (∀ W, Below w.heap.size w W -> Calls Tryz.prog 28 #[.slice A us.length cap] W (EndsIs us W)) := Lib.hid fun W hb => nends_code us (by omega) A cap W (h.next hb)
 by_cases hr : Pr.RightU us
 ·have CR := Lib.hid (rightP_any us hF hwf true (by simp [hr]) A cap hcap w h hT)
  by_cases hd : Ns.deep us
  ·have HV : Hid (b = false) := Lib.hid (by cases hb : b with | false => rfl | true => exact absurd hd (HSD.out.1 hb).2.1)
   have CE2 : Hid (∀ W, Below w.heap.size w W -> Calls Tryz.prog 28 #[.slice A us.length cap] W (EndsBad W)) := Lib.hid fun W hb => (CE.out W hb).mono fun e w' h => h.2 hd
   clear h hF CE hsd HSD hT hwf
   go_enter Tryz.func19, Tryz.ntmps19
   go_wp2_with (first | (go_at_call 43; ((with_reducible refine (CR.out).mono ?_); rintro e w1 ⟨rfl, b1⟩; have HB1 := Lib.hid b1; clear b1)) | (go_at_call 28; ((with_reducible refine (CE2.out _ HB1.out).mono ?_); rintro e w2 ⟨rfl, b2⟩; have HB2 := Lib.hid (below_next HB1.out b2); clear b2)))
   go_ret
   exact ⟨by rw [HV.out]; rfl, HB2.out⟩
  ·have CE2 : Hid (∀ W, Below w.heap.size w W -> Calls Tryz.prog 28 #[.slice A us.length cap] W (EndsRd us W)) := Lib.hid fun W hb => (CE.out W hb).mono fun e w' h => ends_rd (h.1 hd)
   have HB : Hid (b = true ↔ ∀ i, i < us.length -> Rl.okS us i) := Lib.hid ⟨fun h => (HSD.out.1 h).2.2, fun h => HSD.out.2 ⟨hr, hd, h⟩⟩
   have hmm := @run_makeMap Tryz.prog
   have HES : Hid (∀ j, j < us.length -> -1 <= Ru.g (Ns.ends us) j /\ Ru.g (Ns.ends us) j <= us.length) := Lib.hid fun j hj => by
    rcases Ns.ends_range hj with ⟨_, h2⟩ | ⟨_, h2, h3⟩
    ·have : Ru.g (Ns.ends us) j = -1 := h2
     omega
    ·have h4 : (j : Int) < Ru.g (Ns.ends us) j := h2
     have h5 : Ru.g (Ns.ends us) j <= us.length := h3
     omega
   clear h hF CE hsd HSD hT hwf
   go_enter Tryz.func19, Tryz.ntmps19
   go_wp2_with (first | (go_at_call 43; ((with_reducible refine (CR.out).mono ?_); rintro e w1 ⟨rfl, b1⟩; have HB1 := Lib.hid b1; clear b1)) | (go_at_call 28; ((with_reducible refine (CE2.out _ HB1.out).mono ?_); rintro e w2 ⟨A2, c2, rfl, hc2, B2, b2⟩; have HB2 := Lib.hid (below_next HB1.out b2); have HS2 := Lib.hid B2; clear b2 B2)))
   go_loopw [25] (fun v25 wr => ∃ k : Nat, k <= us.length /\ v25 = .int .i64 k /\ Hid (∀ j, j < k -> Ru.g (Ns.ends us) j ≠ (us.length : Int)) /\ (∃ D, Hid (MapI wr w2.heap.size k D) /\ Hid (ClD (Ns.ends us) k D)) /\ Hid (Below w2.heap.size w2 wr)) (fun v25 _ => us.length - (RowKit.intOf v25).toNat)
   case atStart => exact ⟨0, Nat.zero_le _, rfl, Lib.hid (fun j hj => by omega), ⟨_, Lib.hid (World.ownsMap_made _ _ _ _), Lib.hid (clD_0 _)⟩, Lib.hid ((Below.refl _ _).alloc (Nat.le_refl _) _)⟩
   case round =>
    obtain ⟨k, hk, rfl, HK, ⟨D, HD, HC⟩, HBk⟩ := hrel
    by_cases hlt : k < us.length
    ·obtain ⟨bC, oC, rfl, hbC, hpC⟩ := HS2.out (by rw [HEL.out]; omega)
     have e0 := (HBk.out.cell (p := ⟨bC, oC + k, none⟩) hbC).trans (hpC k (by rw [HEL.out]; exact hlt))
     have hec : (k : Int) < ((Ns.ends us).length : Int) := by rw [HEL.out]; omega
     have hes := HES.out k hlt
     clear hpC
     by_cases cg : Ru.g (Ns.ends us) k = (us.length : Int)
     ·have HV : Hid (b = false) := Lib.hid (by cases hb : b with | false => rfl | true => exact absurd cg (HB.out.1 hb k hlt).1)
      rw [cg] at e0
      clear cg HB HC HK
      go_wp2_with fail
      go_ret
      exact ⟨by rw [HV.out]; rfl, below_next HB2.out HBk.out⟩
     ·have gb : (Ru.g (Ns.ends us) k == (us.length : Int)) = false := beq_false_of_ne cg
      have HN : Hid (∀ j, j < k + 1 -> Ru.g (Ns.ends us) j ≠ (us.length : Int)) := Lib.hid fun j hj => by
       by_cases e : j = k
       ·subst e; exact cg
       ·exact HK.out j (by omega)
      clear cg
      by_cases c0 : 0 <= Ru.g (Ns.ends us) k
      ·have d1 : decide (0 <= Ru.g (Ns.ends us) k) = true := decide_eq_true c0
       have HC2 := Lib.hid (fun d => clD_put HC.out d)
       have hown : wr.ownsMap Tryz.prog 3 (plainElem Tryz.prog 3) w2.heap.size k D := HD.out
       have hkey : keyOf Tryz.prog 3 (.int .i64 (Ru.g (Ns.ends us) k)) = some (.int .i64 (Ru.g (Ns.ends us) k)) := keyOf_int_mk Tryz.underlying3 (WalkArith.wf_i64 (by omega))
       generalize Ru.g (Ns.ends us) k = ev at *
       clear HC HK
       go_wp2_with (at_mapUpdate; refine wpList_mapUpdate_own _ rfl _ _ _ 77 rfl 3 3 lawI Tryz.underlying77 _ w2.heap.size k _ rfl hown (by unfold maxLen; omega) _ _ _ rfl rfl hkey _ [] (plainElem_int Tryz.underlying3 (WalkArith.wf_i64 (by omega))) ?_; intro w3 hown3 hgrow3; have HD3 : Hid (MapI w3 w2.heap.size (k + 1) _) := Lib.hid hown3; have HB3 := Lib.hid (HBk.out.grown hgrow3 HBk.out.size (fun j hj => by cases hj; exact Nat.le_refl _)); clear hown3 hgrow3)
       go_roundw
       case rel => exact ⟨k + 1, by omega, by go_num, HN, ⟨_, HD3, Lib.hid (HC2.out _)⟩, HB3⟩
       case measure => simp [RowKit.intOf]; omega
      ·have d1 : decide (0 <= Ru.g (Ns.ends us) k) = false := decide_eq_false c0
       have HC2 := Lib.hid (clD_on HC.out (by omega))
       have HD2 : Hid (MapI wr w2.heap.size (k + 1) D) := Lib.hid (World.ownsMap.mono HD.out (Nat.le_succ k))
       generalize Ru.g (Ns.ends us) k = ev at *
       clear HC HK HD
       go_wp2_with fail
       go_roundw
       case rel => exact ⟨k + 1, by omega, by go_num, HN, ⟨D, HD2, HC2⟩, HBk⟩
       case measure => simp [RowKit.intOf]; omega
    ·obtain rfl : k = us.length := by omega
     have HRG : Hid (∀ i, i < us.length -> 0 <= Ru.g (Ns.ends us) i -> (i : Int) < Ru.g (Ns.ends us) i) := Lib.hid fun i hi h0 => by
      rcases Ns.ends_range hi with ⟨_, h2⟩ | ⟨_, h2, _⟩
      ·have : Ru.g (Ns.ends us) i = -1 := h2
       omega
      ·exact h2
     have HHas : Hid (∀ j : Nat, Maps.has D (.int .i64 (j : Int)) = true ↔ ∃ i, i < j /\ Ru.g (Ns.ends us) i = (j : Int)) := Lib.hid fun j => (clD_has HC.out).trans ⟨fun ⟨i, h1, h2⟩ => ⟨i, by have := HRG.out i h1 (by omega); omega, h2⟩, fun ⟨i, h1, h2⟩ => by
      by_cases hil : i < us.length
      ·exact ⟨i, hil, h2⟩
      ·exfalso
       have : Ru.g (Ns.ends us) i = 0 := by
        unfold Ru.g
        rw [List.getD_eq_getElem?_getD, List.getElem?_eq_none (by rw [HEL.out]; omega)]; rfl
       omega⟩
     have hlen9 : decide ((us.length : Int) < ((Ns.ends us).length : Int)) = false := decide_eq_false (by rw [HEL.out]; omega)
     have hlen8 : ¬ ((us.length : Int) < ((Ns.ends us).length : Int)) := by rw [HEL.out]; omega
     clear HC HRG HES
     go_wp2_with fail
     clear hlen9 hlen8
     go_loopw [42] (fun v42 wq => ∃ j : Nat, j <= us.length /\ v42 = .int .i64 j /\ Hid (∀ i, i < j -> Rl.okS us i) /\ Hid (MapI wq w2.heap.size us.length D) /\ Hid (Below w2.heap.size w2 wq)) (fun v42 _ => us.length - (RowKit.intOf v42).toNat)
     case atStart => exact ⟨0, Nat.zero_le _, rfl, Lib.hid (fun j hj => by omega), HD, HBk⟩
     case round =>
      obtain ⟨j, hj, rfl, HJ, HM, HBj⟩ := hrel
      by_cases hjl : j < us.length
      ·have HBW := Lib.hid (below_next HB2.out HBj.out)
       obtain ⟨bb, off, rfl, hbb, hp⟩ := H.out (by omega)
       obtain ⟨p0, p1, p2⟩ := hp j hjl
       replace p0 := (HBW.out.cell (p := ⟨bb, off + j * 3, none⟩) hbb).trans p0
       replace p1 := (HBW.out.cell (p := ⟨bb, off + j * 3 + 1, none⟩) hbb).trans p1
       replace p2 := (HBW.out.cell (p := ⟨bb, off + j * 3 + 2, none⟩) hbb).trans p2
       have HOk : Hid (Rl.okS us j ↔ (Rl.bkB (Tk.tk us j) = false /\ ((Tk.tk us j).1 = 13 -> Maps.has D (.int .i64 (j : Int)) = true))) := Lib.hid ⟨fun ⟨_, c2, c3, c4⟩ => ⟨decide_eq_false (fun c => c.elim c2 c3), fun c => (HHas.out j).2 (c4 c)⟩, fun ⟨c1, c2⟩ => ⟨HK.out j hjl, fun c => of_decide_eq_false c1 (.inl c), fun c => of_decide_eq_false c1 (.inr c), fun c => (HHas.out j).1 (c2 c)⟩⟩
       have HNo : Hid (¬ Rl.okS us j -> b = false) := Lib.hid fun hn => by cases hb : b with | false => rfl | true => exact absurd (HB.out.1 hb j hjl) hn
       have HYes : Hid (Rl.okS us j -> ∀ i, i < j + 1 -> Rl.okS us i) := Lib.hid fun hy i hi => by
        by_cases hi2 : i < j
        ·exact HJ.out i hi2
        ·obtain rfl : i = j := by omega
         exact hy
       have CBk : Hid (∀ W, Calls Tryz.prog 44 #[.agg #[.int .i64 (Tk.tk us j).1, .string (Tk.tk us j).2.1, .int .i64 (Tk.tk us j).2.2]] W (Bo (Rl.bkB (Tk.tk us j)) W)) := Lib.hid fun W => broken_any _ W
       have hkey : keyOf Tryz.prog 3 (.int .i64 (j : Int)) = some (.int .i64 (j : Int)) := keyOf_int_mk Tryz.underlying3 (WalkArith.wf_i64 (by omega))
       clear hp hbb
       generalize Rl.bkB (Tk.tk us j) = bk at *
       generalize Tk.tk us j = u at *
       obtain ⟨kd, t, n⟩ := u
       simp only at p0 p1 p2 HOk CBk
       go_upto_region 18 with fail
       have k3 := heap_alloc_new wr (.cells #[.int .i64 kd, .string t, .int .i64 n] 70)
       have b3 := (Below.refl wr.heap.size wr).alloc (Nat.le_refl _) (.cells #[.int .i64 kd, .string t, .int .i64 n] 70)
       generalize wr.alloc (.cells #[.int .i64 kd, .string t, .int .i64 n] 70) = w3 at k3 b3 ⊢
       have HK3 := Lib.hid k3
       obtain ⟨y0, y1, y2⟩ := tok3_cells k3
       have HB3 := Lib.hid (below_next HBj.out b3)
       have HM3 := Lib.hid (HM.out.below b3)
       have hown : w3.ownsMap Tryz.prog 3 (plainElem Tryz.prog 3) w2.heap.size us.length D := HM3.out
       have hs3 : wr.heap.size < w3.heap.size := (Array.getElem?_eq_some_iff.1 k3).1
       clear p0 p1 p2 k3 b3 CR CE2 HM HK HHas
       cases bk
       ·by_cases h13 : kd = 13
        ·subst h13
         generalize hhs : Maps.has D (.int .i64 (j : Int)) = hs at *
         cases hs
         ·have HV := Lib.hid (HNo.out (fun c => by have := (HOk.out.1 c).2 rfl; cases this))
          clear HNo HYes HOk
          go_wp2_with (first | (at_lookup; refine wpList_lookup_own_ok_int _ rfl _ _ 77 rfl 3 3 .i64 lawI Tryz.underlying77 Tryz.underlying3 (zeroI _) w2.heap.size us.length D rfl hown _ _ rfl hkey ?_; intro c hat hwc; rw [hhs]; clear hat hwc) | (go_at_call 44; ((with_reducible refine (CBk.out _).mono ?_); rintro e w4 ⟨rfl, b4⟩; have HB4 := Lib.hid (below_next HB3.out b4); have z0 := (b4.cell (p := ⟨wr.heap.size, 0, none⟩) hs3).trans y0; clear b4)))
          go_ret
          exact ⟨by rw [HV.out]; rfl, below_next HB2.out HB4.out⟩
         ·have HY := Lib.hid (HYes.out (HOk.out.2 ⟨rfl, fun _ => rfl⟩))
          clear HNo HYes HOk
          go_wp2_with (first | (at_lookup; refine wpList_lookup_own_ok_int _ rfl _ _ 77 rfl 3 3 .i64 lawI Tryz.underlying77 Tryz.underlying3 (zeroI _) w2.heap.size us.length D rfl hown _ _ rfl hkey ?_; intro c hat hwc; rw [hhs]; clear hat hwc) | (go_at_call 44; ((with_reducible refine (CBk.out _).mono ?_); rintro e w4 ⟨rfl, b4⟩; have HB4 := Lib.hid (below_next HB3.out b4); have HM4 := Lib.hid (HM3.out.below b4); have z0 := (b4.cell (p := ⟨wr.heap.size, 0, none⟩) hs3).trans y0; clear b4)))
          go_roundw
          case rel => exact ⟨j + 1, by omega, by go_num, HY, HM4, HB4⟩
          case measure => simp [RowKit.intOf]; omega
        ·have e13 : (kd == 13) = false := beq_false_of_ne h13
         have HY := Lib.hid (HYes.out (HOk.out.2 ⟨rfl, fun c => absurd c h13⟩))
         clear HNo HYes HOk h13
         go_wp2_with (first | (at_lookup; refine wpList_lookup_own_ok_int _ rfl _ _ 77 rfl 3 3 .i64 lawI Tryz.underlying77 Tryz.underlying3 (zeroI _) w2.heap.size us.length D rfl hown _ _ rfl hkey ?_; intro c hat hwc; clear hat hwc) | (go_at_call 44; ((with_reducible refine (CBk.out _).mono ?_); rintro e w4 ⟨rfl, b4⟩; have HB4 := Lib.hid (below_next HB3.out b4); have HM4 := Lib.hid (HM3.out.below b4); have z0 := (b4.cell (p := ⟨wr.heap.size, 0, none⟩) hs3).trans y0; clear b4)))
         go_roundw
         case rel => exact ⟨j + 1, by omega, by go_num, HY, HM4, HB4⟩
         case measure => simp [RowKit.intOf]; omega
       ·have HV := Lib.hid (HNo.out (fun c => by have := (HOk.out.1 c).1; cases this))
        clear HNo HYes HOk
        go_wp2_with (first | (at_lookup; refine wpList_lookup_own_ok_int _ rfl _ _ 77 rfl 3 3 .i64 lawI Tryz.underlying77 Tryz.underlying3 (zeroI _) w2.heap.size us.length D rfl hown _ _ rfl hkey ?_; intro c hat hwc; clear hat hwc) | (go_at_call 44; ((with_reducible refine (CBk.out _).mono ?_); rintro e w4 ⟨rfl, b4⟩; have HB4 := Lib.hid (below_next HB3.out b4); clear b4)))
        go_ret
        exact ⟨by rw [HV.out]; rfl, below_next HB2.out HB4.out⟩
      ·obtain rfl : us.length = j := by omega
       have HV : Hid (b = true) := Lib.hid (HB.out.2 HJ.out)
       clear HB HK HHas HJ
       go_wp2_with fail
       go_ret
       exact ⟨by rw [HV.out]; rfl, below_next HB2.out HBj.out⟩
 ·have HV : Hid (b = false) := Lib.hid (by cases hb : b with | false => rfl | true => exact absurd (HSD.out.1 hb).1 hr)
  have CR := Lib.hid (rightP_any us hF hwf false (by simp [hr]) A cap hcap w h hT)
  clear h hF CE hsd HSD hT hwf
  go_enter Tryz.func19, Tryz.ntmps19
  go_wp2_with (go_at_call 43; ((with_reducible refine (CR.out).mono ?_); rintro e w1 ⟨rfl, b1⟩; have HB1 := Lib.hid b1; clear b1))
  go_ret
  exact ⟨by rw [HV.out]; rfl, HB1.out⟩
end Go.Proofs.YtllmjggejbdpcaaGreatDoor
namespace Go.Proofs.YtllmjggejbdpcaaGreatDoor
open Go.RowKit
instance : DecidableEq Rl.Decl := inferInstanceAs (DecidableEq (ByteArray × List Tk.Tok × Bool))
instance : DecidableEq (List Rl.Decl) := inferInstance
instance : DecidableEq Rl.Margin := inferInstanceAs (DecidableEq (ByteArray × List Rl.Decl))
instance : DecidableEq (List Rl.Margin) := inferInstance
instance : DecidableEq Rl.Rule := inferInstanceAs (DecidableEq (Int × List Tk.Tok × List Rl.Decl × List Rl.Margin))
instance : DecidableEq (List Rl.Rule) := inferInstance
theorem dec_at {t : Bool} {W : World} {A : Option Addr} {us : List Rl.Decl} (h : Rl.Cells 3 (Rl.DecQ t) W A us) (h0 : 0 < us.length) : ∃ b off, A = some ⟨b, off, none⟩ /\ b < W.heap.size /\ ∀ j (hj : j < us.length), ∃ (A1 : Option Addr) (c1 : Nat), us[j].2.1.length <= c1 /\ Ts W W.heap.size A1 us[j].2.1 /\ W.cell? ⟨b, off + j * 3, none⟩ = some (.string us[j].1) /\ W.cell? ⟨b, off + j * 3 + 1, none⟩ = some (.slice A1 us[j].2.1.length c1) /\ W.cell? ⟨b, off + j * 3 + 2, none⟩ = some (.bool us[j].2.2) := by
 obtain ⟨b, off, hA, hb, hc⟩ := h h0
 refine ⟨b, off, hA, hb, fun j hj => ?_⟩
 obtain ⟨cs, _, hr, h3⟩ := hc j hj
 obtain ⟨x0, x1, x2, e, g0, g1, g2⟩ := hr
 injection g0 with g0
 obtain ⟨A1, c1, e1, l1, r1, _⟩ := g1
 injection e1 with e1
 injection g2 with g2
 subst e g0 e1 g2
 exact ⟨A1, c1, l1, Rl.ts_cells r1, h3 0 _ rfl, h3 1 _ rfl, h3 2 _ rfl⟩
theorem rul_at {t : Bool} {W : World} {A : Option Addr} {us : List Rl.Rule} (h : Rl.Cells 4 (Rl.RulQ t) W A us) (h0 : 0 < us.length) : ∃ b off, A = some ⟨b, off, none⟩ /\ b < W.heap.size /\ ∀ j (hj : j < us.length), ∃ (A1 : Option Addr) (c1 : Nat) (A2 : Option Addr) (c2 : Nat) (A3 : Option Addr) (c3 : Nat), us[j].2.1.length <= c1 /\ Ts W W.heap.size A1 us[j].2.1 /\ us[j].2.2.1.length <= c2 /\ Rl.Cells 3 (Rl.DecQ t) W A2 us[j].2.2.1 /\ us[j].2.2.2.length <= c3 /\ Rl.Cells 2 (Rl.MarQ t) W A3 us[j].2.2.2 /\ W.cell? ⟨b, off + j * 4, none⟩ = some (.int .i64 us[j].1) /\ W.cell? ⟨b, off + j * 4 + 1, none⟩ = some (.slice A1 us[j].2.1.length c1) /\ W.cell? ⟨b, off + j * 4 + 2, none⟩ = some (.slice A2 us[j].2.2.1.length c2) /\ W.cell? ⟨b, off + j * 4 + 3, none⟩ = some (.slice A3 us[j].2.2.2.length c3) := by
 obtain ⟨b, off, hA, hb, hc⟩ := h h0
 refine ⟨b, off, hA, hb, fun j hj => ?_⟩
 obtain ⟨cs, _, hr, h3⟩ := hc j hj
 obtain ⟨x0, x1, x2, x3, e, g0, g1, g2, g3⟩ := hr
 injection g0 with g0
 obtain ⟨A1, c1, e1, l1, r1, _⟩ := g1
 injection e1 with e1
 obtain ⟨A2, c2, e2, l2, r2, _⟩ := g2
 injection e2 with e2
 obtain ⟨A3, c3, e3, l3, r3, _⟩ := g3
 injection e3 with e3
 subst e g0 e1 e2 e3
 exact ⟨A1, c1, A2, c2, A3, c3, l1, Rl.ts_cells r1, l2, r2, l3, r3, h3 0 _ rfl, h3 1 _ rfl, h3 2 _ rfl, h3 3 _ rfl⟩
namespace Rl
open Tk Ns
def RtL (us : List Tok) : Prop := ∃ ps : List Pr.PT, us = ps.map Pr.toTok /\ Pr.Right ps
def Jnt (A B : List Tok) : Prop := ∀ x, A.getLast? = some x -> (x.1 = 1 -> ∀ y, B.head? = some y -> y.1 ≠ 1) /\ x.1 ≠ 7 /\ ¬ (x.1 = 11 /\ x.2.1 = ⟨#[92]⟩)
def NmOk (n : ByteArray) : Prop := ∃ l, Pr.Ok l /\ l ≠ [] /\ n = str l
theorem right_app : ∀ {ps qs : List Pr.PT}, Pr.Right ps -> Pr.Right qs -> (∀ t, ps.getLast? = some t -> Pr.Stn t (Pr.nextK qs)) -> Pr.Right (ps ++ qs)
 | [], _, _, h, _ => h
 | [t], qs, h1, h2, h => ⟨h1.1, h t rfl, h2⟩
 | t :: u :: ps, qs, h1, h2, h => by
   refine ⟨h1.1, h1.2.1, ?_⟩
   exact right_app (ps := u :: ps) h1.2.2 h2 (fun x hx => h x (by rw [List.getLast?_cons_cons]; exact hx))
theorem rtl_app {A B : List Tok} (hA : RtL A) (hB : RtL B) (h : Jnt A B) : RtL (A ++ B) := by
 obtain ⟨ps, rfl, h1⟩ := hA
 obtain ⟨qs, rfl, h2⟩ := hB
 refine ⟨ps ++ qs, by rw [List.map_append], right_app h1 h2 fun t ht => ?_⟩
 have hx := h (Pr.toTok t) (by rw [List.getLast?_map, ht]; rfl)
 obtain ⟨a, b, c⟩ := hx
 refine ⟨fun e hn => ?_, fun e => absurd e b, fun e1 e2 => absurd ⟨e1, ?_⟩ c⟩
 ·cases qs with
  | nil => cases hn
  | cons q qs =>
    have hq : q.1 = 1 := by unfold Pr.nextK at hn; simpa using hn
    exact a e (Pr.toTok q) rfl hq
 ·show str t.2.1 = ⟨#[92]⟩
  rw [e2]; rfl
theorem rtl_one {t : Pr.PT} (h : Pr.One t) (h7 : t.1 ≠ 7) : RtL [Pr.toTok t] :=
 ⟨[t], rfl, h, ⟨fun _ c => by (cases c), fun c => absurd c h7, fun _ _ => .inr rfl⟩, trivial⟩
theorem rtl_name {k : Int} {n : ByteArray} (hk : k = 2 ∨ k = 3 ∨ k = 4 ∨ k = 5) (h : NmOk n) : RtL [(k, n, 0)] := by
 obtain ⟨l, h1, h2, rfl⟩ := h
 exact rtl_one (t := (k, l, 0)) ⟨h1, .inr (.inl ⟨hk, h2, rfl⟩)⟩ (by show k ≠ 7; omega)
theorem jnt_one {t : Tok} {B : List Tok} (h1 : t.1 ≠ 1) (h7 : t.1 ≠ 7) (h11 : ¬ (t.1 = 11 /\ t.2.1 = ⟨#[92]⟩)) : Jnt [t] B := fun x hx => by
 obtain rfl : t = x := by simpa using hx
 exact ⟨fun c => absurd c h1, h7, h11⟩
theorem rtl_cons {t : Tok} {B : List Tok} (ht : RtL [t]) (h1 : t.1 ≠ 1) (h7 : t.1 ≠ 7) (h11 : ¬ (t.1 = 11 /\ t.2.1 = ⟨#[92]⟩)) (hB : RtL B) : RtL (t :: B) := rtl_app (A := [t]) ht hB (jnt_one h1 h7 h11)
theorem rtl_col : RtL [colT] := rtl_one (t := (14, [], 0)) ⟨fun c hc => by (cases hc), by simp [Pr.Kd]⟩ (by decide)
theorem ok_small {l : List Int} (h : ∀ c ∈ l, 0 < c /\ c < 128) : Pr.Ok l := fun c hc => by
 have := h c hc
 exact ⟨by unfold Ru.Is; omega, by omega⟩
def Txt (r : Rule) : Prop := (∀ d ∈ r.2.2.1, NmOk d.1) /\ ∀ m ∈ r.2.2.2, NmOk m.1 /\ ∀ d ∈ m.2, NmOk d.1
end Rl
end Go.Proofs.YtllmjggejbdpcaaGreatDoor
namespace Go.Proofs.YtllmjggejbdpcaaGreatDoor
namespace Pr
open Ru Tk
theorem tk_cons_succ (u : Tok) (us : List Tok) (j : Nat) : tk (u :: us) (j + 1) = tk us j := by
 unfold tk; simp
theorem tk_cons_zero (u : Tok) (us : List Tok) : tk (u :: us) 0 = u := by
 unfold tk; simp
theorem nxK_cons (u : Tok) (us : List Tok) (j : Nat) : nxK (u :: us) (j + 1) = nxK us j := by
 unfold nxK
 rw [tk_cons_succ]
 by_cases h : j < us.length
 ·rw [if_pos h, if_pos (by simp; exact h)]
 ·rw [if_neg h, if_neg (by simp; omega)]
theorem nxK_zero (ps : List PT) : nxK (ps.map toTok) 0 = nextK ps := by
 cases ps with
 | nil => rfl
 | cons p r => unfold nxK nextK; rw [if_pos (by simp)]; rfl
theorem okAt_cons (u : Tok) (us : List Tok) (j : Nat) : OkAt (u :: us) (j + 1) ↔ OkAt us j := by
 unfold OkAt
 rw [tk_cons_succ, nxK_cons]
theorem stn_iff {k n : Int} {cs : List Int} (h : ∀ c ∈ cs, Is c) (nx : Option Int) : stnB k (str cs) nx = true ↔ Stn (k, cs, n) nx := by
 have e : str cs = ⟨#[92]⟩ ↔ cs = [92] := by
  constructor
  ·intro he
   have h1 : wr cs = wr [92] := by rw [<- str_bs, he]; rfl
   exact wr_inj h (fun c hc => by rw [List.mem_singleton] at hc; subst hc; unfold Is; omega) h1
  ·rintro rfl; rfl
 unfold stnB Stn
 simp only [e]
 by_cases h1 : k = 1
 ·subst h1
  rw [if_pos rfl, decide_eq_true_iff]
  constructor
  ·intro h2; exact ⟨fun _ => h2, fun h3 => by omega, fun h3 => by omega⟩
  ·rintro ⟨h2, _⟩; exact h2 rfl
 ·rw [if_neg h1]
  by_cases h7 : k = 7
  ·subst h7
   rw [if_pos rfl, decide_eq_true_iff]
   constructor
   ·intro h2; exact ⟨fun h3 => by omega, fun _ => h2, fun h3 => by omega⟩
   ·rintro ⟨_, h2, _⟩; exact h2 rfl
  ·rw [if_neg h7]
   by_cases h11 : k = 11 /\ cs = [92]
   ·rw [if_pos h11, decide_eq_true_iff]
    constructor
    ·intro h2; exact ⟨fun h3 => absurd h3 h1, fun h3 => absurd h3 h7, fun _ _ => h2⟩
    ·rintro ⟨_, _, h2⟩; exact h2 h11.1 h11.2
   ·rw [if_neg h11]
    constructor
    ·intro _; exact ⟨fun h3 => absurd h3 h1, fun h3 => absurd h3 h7, fun h3 h4 => absurd ⟨h3, h4⟩ h11⟩
    ·intro _; rfl
theorem okAll_iff : ∀ (us : List Tok), (∀ j, j < us.length -> OkAt us j) ↔ ∃ ps : List PT, us = ps.map toTok /\ Right ps
 | [] => ⟨fun _ => ⟨[], rfl, trivial⟩, fun _ j hj => by simp at hj⟩
 | u :: us => by
   have ih := okAll_iff us
   constructor
   ·intro h
    obtain ⟨ps, rfl, hr⟩ := ih.1 (fun j hj => (okAt_cons u us j).1 (h (j + 1) (by simp; omega)))
    obtain ⟨h1, h2⟩ := h 0 (by simp)
    rw [tk_cons_zero] at h1 h2
    obtain ⟨p, rfl, hp⟩ := h1
    refine ⟨p :: ps, rfl, hp, ?_, hr⟩
    rw [nxK_cons, nxK_zero] at h2
    obtain ⟨k, cs, n⟩ := p
    exact (stn_iff (fun c hc => (hp.1 c hc).1) _).1 h2
   ·rintro ⟨ps, he, hr⟩
    cases ps with
    | nil => simp at he
    | cons p ps =>
      rw [List.map_cons, List.cons.injEq] at he
      obtain ⟨rfl, rfl⟩ := he
      obtain ⟨hp, hs, hr⟩ := hr
      have h2 := ih.2 ⟨ps, rfl, hr⟩
      intro j hj
      cases j with
      | zero =>
        refine ⟨by rw [tk_cons_zero]; exact ⟨p, rfl, hp⟩, ?_⟩
        rw [tk_cons_zero, nxK_cons, nxK_zero]
        obtain ⟨k, cs, n⟩ := p
        exact (stn_iff (fun c hc => (hp.1 c hc).1) _).2 hs
      | succ j => exact (okAt_cons _ _ j).2 (h2 j (by simp at hj ⊢; exact hj))
theorem rightU_iff (us : List Tok) : RightU us ↔ us.length <= 16384 /\ ∃ ps : List PT, us = ps.map toTok /\ Right ps := by
 unfold RightU
 rw [okAll_iff]
end Pr
end Go.Proofs.YtllmjggejbdpcaaGreatDoor
namespace Go.Proofs.YtllmjggejbdpcaaGreatDoor
open Go.RowKit
namespace Rl
open Tk Ns
variable {sd : List Tok -> Bool}
open Classical in
noncomputable def sdU (us : List Tok) : Bool := decide (Pr.RightU us /\ ¬ Ns.deep us /\ ∀ i, i < us.length -> okS us i)
open Classical in
theorem sdU_is : SdIs sdU := fun us => by unfold sdU; exact decide_eq_true_iff
theorem sdU_c : SdC sdU := rsound_any sdU sdU_is
end Rl
namespace Rl
open Tk Ns
def awB : List Int := [97, 123, 98, 58, 99, 33, 105, 109, 112, 111, 114, 116, 97, 110, 116, 59, 100, 125, 64, 120, 32, 121, 59, 64, 112, 97, 103, 101, 32, 58, 108, 101, 102, 116, 123, 109, 97, 114, 103, 105, 110, 58, 49, 101, 109, 59, 64, 116, 111, 112, 45, 108, 101, 102, 116, 123, 99, 111, 110, 116, 101, 110, 116, 58, 39, 120, 39, 125, 125]
def awT : List Tok := [(2, ⟨#[97]⟩, 0), (12, ⟨#[123]⟩, 0), (2, ⟨#[98]⟩, 0), (14, ⟨#[]⟩, 0), (2, ⟨#[99]⟩, 0), (11, ⟨#[33]⟩, 0), (2, ⟨#[105, 109, 112, 111, 114, 116, 97, 110, 116]⟩, 0), (15, ⟨#[]⟩, 0), (2, ⟨#[100]⟩, 0), (13, ⟨#[125]⟩, 0), (4, ⟨#[120]⟩, 0), (1, ⟨#[]⟩, 0), (2, ⟨#[121]⟩, 0), (15, ⟨#[]⟩, 0), (4, ⟨#[112, 97, 103, 101]⟩, 0), (1, ⟨#[]⟩, 0), (14, ⟨#[]⟩, 0), (2, ⟨#[108, 101, 102, 116]⟩, 0), (12, ⟨#[123]⟩, 0), (2, ⟨#[109, 97, 114, 103, 105, 110]⟩, 0), (14, ⟨#[]⟩, 0), (10, ⟨#[101, 109]⟩, 1000), (15, ⟨#[]⟩, 0), (4, ⟨#[116, 111, 112, 45, 108, 101, 102, 116]⟩, 0), (12, ⟨#[123]⟩, 0), (2, ⟨#[99, 111, 110, 116, 101, 110, 116]⟩, 0), (14, ⟨#[]⟩, 0), (6, ⟨#[120]⟩, 0), (13, ⟨#[125]⟩, 0), (13, ⟨#[125]⟩, 0)]
theorem awB_by : Ru.By awB := by intro c hc; revert c; decide
theorem awB_rd : Ru.rd awB = awB := by decide +kernel
theorem awn0 : nxt awB 0 = (2, ⟨#[97]⟩, 0, 1) := by decide +kernel
theorem awn1 : nxt awB 1 = (12, ⟨#[123]⟩, 0, 2) := by decide +kernel
theorem awn2 : nxt awB 2 = (2, ⟨#[98]⟩, 0, 3) := by decide +kernel
theorem awn3 : nxt awB 3 = (14, ⟨#[]⟩, 0, 4) := by decide +kernel
theorem awn4 : nxt awB 4 = (2, ⟨#[99]⟩, 0, 5) := by decide +kernel
theorem awn5 : nxt awB 5 = (11, ⟨#[33]⟩, 0, 6) := by decide +kernel
theorem awn6 : nxt awB 6 = (2, ⟨#[105, 109, 112, 111, 114, 116, 97, 110, 116]⟩, 0, 15) := by decide +kernel
theorem awn7 : nxt awB 15 = (15, ⟨#[]⟩, 0, 16) := by decide +kernel
theorem awn8 : nxt awB 16 = (2, ⟨#[100]⟩, 0, 17) := by decide +kernel
theorem awn9 : nxt awB 17 = (13, ⟨#[125]⟩, 0, 18) := by decide +kernel
theorem awn10 : nxt awB 18 = (4, ⟨#[120]⟩, 0, 20) := by decide +kernel
theorem aws11 : Tk.sp awB 20 false = (21, true) := by decide +kernel
theorem awn12 : nxt awB 21 = (2, ⟨#[121]⟩, 0, 22) := by decide +kernel
theorem awn13 : nxt awB 22 = (15, ⟨#[]⟩, 0, 23) := by decide +kernel
theorem awn14 : nxt awB 23 = (4, ⟨#[112, 97, 103, 101]⟩, 0, 28) := by decide +kernel
theorem aws15 : Tk.sp awB 28 false = (29, true) := by decide +kernel
theorem awn16 : nxt awB 29 = (14, ⟨#[]⟩, 0, 30) := by decide +kernel
theorem awn17 : nxt awB 30 = (2, ⟨#[108, 101, 102, 116]⟩, 0, 34) := by decide +kernel
theorem awn18 : nxt awB 34 = (12, ⟨#[123]⟩, 0, 35) := by decide +kernel
theorem awn19 : nxt awB 35 = (2, ⟨#[109, 97, 114, 103, 105, 110]⟩, 0, 41) := by decide +kernel
theorem awn20 : nxt awB 41 = (14, ⟨#[]⟩, 0, 42) := by decide +kernel
theorem awn21 : nxt awB 42 = (10, ⟨#[101, 109]⟩, 1000, 45) := by decide +kernel
theorem awn22 : nxt awB 45 = (15, ⟨#[]⟩, 0, 46) := by decide +kernel
theorem awn23 : nxt awB 46 = (4, ⟨#[116, 111, 112, 45, 108, 101, 102, 116]⟩, 0, 55) := by decide +kernel
theorem awn24 : nxt awB 55 = (12, ⟨#[123]⟩, 0, 56) := by decide +kernel
theorem awn25 : nxt awB 56 = (2, ⟨#[99, 111, 110, 116, 101, 110, 116]⟩, 0, 63) := by decide +kernel
theorem awn26 : nxt awB 63 = (14, ⟨#[]⟩, 0, 64) := by decide +kernel
theorem awn27 : nxt awB 64 = (6, ⟨#[120]⟩, 0, 67) := by decide +kernel
theorem awn28 : nxt awB 67 = (13, ⟨#[125]⟩, 0, 68) := by decide +kernel
theorem awn29 : nxt awB 68 = (13, ⟨#[125]⟩, 0, 69) := by decide +kernel
theorem aw_scan : scan (Ru.rd awB) 0 = awT := by
 rw [awB_rd]
 rw [scan_tok (k := 0) (by decide) (by decide +kernel) (by decide +kernel), awn0]
 rw [scan_tok (k := 1) (by decide) (by decide +kernel) (by decide +kernel), awn1]
 rw [scan_tok (k := 2) (by decide) (by decide +kernel) (by decide +kernel), awn2]
 rw [scan_tok (k := 3) (by decide) (by decide +kernel) (by decide +kernel), awn3]
 rw [scan_tok (k := 4) (by decide) (by decide +kernel) (by decide +kernel), awn4]
 rw [scan_tok (k := 5) (by decide) (by decide +kernel) (by decide +kernel), awn5]
 rw [scan_tok (k := 6) (by decide) (by decide +kernel) (by decide +kernel), awn6]
 rw [scan_tok (k := 15) (by decide) (by decide +kernel) (by decide +kernel), awn7]
 rw [scan_tok (k := 16) (by decide) (by decide +kernel) (by decide +kernel), awn8]
 rw [scan_tok (k := 17) (by decide) (by decide +kernel) (by decide +kernel), awn9]
 rw [scan_tok (k := 18) (by decide) (by decide +kernel) (by decide +kernel), awn10]
 rw [scan_gap (k := 20) (by decide), aws11]
 rw [scan_tok (k := 21) (by decide) (by decide +kernel) (by decide +kernel), awn12]
 rw [scan_tok (k := 22) (by decide) (by decide +kernel) (by decide +kernel), awn13]
 rw [scan_tok (k := 23) (by decide) (by decide +kernel) (by decide +kernel), awn14]
 rw [scan_gap (k := 28) (by decide), aws15]
 rw [scan_tok (k := 29) (by decide) (by decide +kernel) (by decide +kernel), awn16]
 rw [scan_tok (k := 30) (by decide) (by decide +kernel) (by decide +kernel), awn17]
 rw [scan_tok (k := 34) (by decide) (by decide +kernel) (by decide +kernel), awn18]
 rw [scan_tok (k := 35) (by decide) (by decide +kernel) (by decide +kernel), awn19]
 rw [scan_tok (k := 41) (by decide) (by decide +kernel) (by decide +kernel), awn20]
 rw [scan_tok (k := 42) (by decide) (by decide +kernel) (by decide +kernel), awn21]
 rw [scan_tok (k := 45) (by decide) (by decide +kernel) (by decide +kernel), awn22]
 rw [scan_tok (k := 46) (by decide) (by decide +kernel) (by decide +kernel), awn23]
 rw [scan_tok (k := 55) (by decide) (by decide +kernel) (by decide +kernel), awn24]
 rw [scan_tok (k := 56) (by decide) (by decide +kernel) (by decide +kernel), awn25]
 rw [scan_tok (k := 63) (by decide) (by decide +kernel) (by decide +kernel), awn26]
 rw [scan_tok (k := 64) (by decide) (by decide +kernel) (by decide +kernel), awn27]
 rw [scan_tok (k := 67) (by decide) (by decide +kernel) (by decide +kernel), awn28]
 rw [scan_tok (k := 68) (by decide) (by decide +kernel) (by decide +kernel), awn29]
 rw [scan_end (k := 69) (by decide)]
 rfl
def plcF (es : List Int) (tz : Nat) : Nat -> Nat -> List Nat
 | 0, _ => []
 | n + 1, a => if a < tz then a :: plcF es tz n (sk es a) else []
theorem plc_F {es : List Int} {tz : Nat} : ∀ (n a : Nat), tz - a <= n -> plc es tz a = plcF es tz n a
 | 0, a, h => by rw [plc_end (by omega)]; rfl
 | n + 1, a, h => by
   by_cases c : a < tz
   ·have := sk_gt es a
    rw [plc_on c, plcF, if_pos c, plc_F n (sk es a) (by omega)]
   ·rw [plc_end c, plcF, if_neg c]
theorem fo_F {p : Tok -> Bool} {ts : List Tok} {a b n : Nat} (h : b - a <= 40) (e : (if fnd (fun x => p (tk ts x)) (plcF (ends ts) b 40 a) = -1 then b else (fnd (fun x => p (tk ts x)) (plcF (ends ts) b 40 a)).toNat) = n) : fo p ts a b = n := by
 unfold fo
 rw [plc_F 40 a h]
 exact e
theorem awf0 : fo (stB false) awT 0 30 = 1 := fo_F (by decide) (by decide +kernel)
theorem awf1 : fo (stB true) awT 11 30 = 13 := fo_F (by decide) (by decide +kernel)
theorem awf2 : fo (stB true) awT 15 30 = 18 := fo_F (by decide) (by decide +kernel)
theorem awf3 : fo (seB) awT 2 9 = 7 := fo_F (by decide) (by decide +kernel)
theorem awf4 : fo (seB) awT 8 9 = 9 := fo_F (by decide) (by decide +kernel)
theorem awf5 : fo (seB) awT 19 29 = 22 := fo_F (by decide) (by decide +kernel)
theorem awf6 : fo (stB true) awT 24 29 = 24 := fo_F (by decide) (by decide +kernel)
theorem awf7 : fo (seB) awT 25 28 = 28 := fo_F (by decide) (by decide +kernel)
theorem awk0 : sk (ends awT) 1 = 10 := by decide +kernel
theorem awk1 : sk (ends awT) 13 = 14 := by decide +kernel
theorem awk2 : sk (ends awT) 18 = 30 := by decide +kernel
theorem awk3 : sk (ends awT) 24 = 29 := by decide +kernel
theorem awg0 : (Ru.g (ends awT) 1).toNat = 9 := by decide +kernel
theorem awg1 : (Ru.g (ends awT) 18).toNat = 29 := by decide +kernel
theorem awg2 : (Ru.g (ends awT) 24).toNat = 28 := by decide +kernel
structure AwS (sd : List Tok -> Bool) : Prop where
 a : sd [(2, ⟨#[97]⟩, 0)] = true
 c : sd [(2, ⟨#[99]⟩, 0)] = true
 l : sd [(14, ⟨#[]⟩, 0), (2, ⟨#[108, 101, 102, 116]⟩, 0)] = true
 m : sd [(10, ⟨#[101, 109]⟩, 1000)] = true
 x : sd [(6, ⟨#[120]⟩, 0)] = true
def awD1 : Decl := (⟨#[98]⟩, [(2, ⟨#[99]⟩, 0)], true)
def awD2 : Decl := (⟨#[109, 97, 114, 103, 105, 110]⟩, [(10, ⟨#[101, 109]⟩, 1000)], false)
def awD3 : Decl := (⟨#[99, 111, 110, 116, 101, 110, 116]⟩, [(6, ⟨#[120]⟩, 0)], false)
def awL : List Rule := [(1, [(2, ⟨#[97]⟩, 0)], [awD1], []), (2, [(14, ⟨#[]⟩, 0), (2, ⟨#[108, 101, 102, 116]⟩, 0)], [awD2], [(⟨#[116, 111, 112, 45, 108, 101, 102, 116]⟩, [awD3])])]
section
variable {sd : List Tok -> Bool} (S : AwS sd)
include S
theorem awd1 : declL sd (sub awT 2 7) = some awD1 := by
 have e : trim (sub awT 2 7) = [(2, ⟨#[98]⟩, 0), (14, ⟨#[]⟩, 0), (2, ⟨#[99]⟩, 0), (11, ⟨#[33]⟩, 0), (2, ⟨#[105, 109, 112, 111, 114, 116, 97, 110, 116]⟩, 0)] := by decide +kernel
 have e2 : lead [(14, ⟨#[]⟩, 0), (2, ⟨#[99]⟩, 0), (11, ⟨#[33]⟩, 0), (2, ⟨#[105, 109, 112, 111, 114, 116, 97, 110, 116]⟩, 0)] = [(14, ⟨#[]⟩, 0), (2, ⟨#[99]⟩, 0), (11, ⟨#[33]⟩, 0), (2, ⟨#[105, 109, 112, 111, 114, 116, 97, 110, 116]⟩, 0)] := by decide +kernel
 have e3 : value (trim [(2, ⟨#[99]⟩, 0), (11, ⟨#[33]⟩, 0), (2, ⟨#[105, 109, 112, 111, 114, 116, 97, 110, 116]⟩, 0)]) = ([(2, ⟨#[99]⟩, 0)], true) := by decide +kernel
 unfold declL
 rw [e, declN, if_pos (by decide), e2, declV, e3, if_pos ⟨by decide, S.c⟩]
 decide +kernel
theorem awd2 : declL sd (sub awT 19 22) = some awD2 := by
 have e : trim (sub awT 19 22) = [(2, ⟨#[109, 97, 114, 103, 105, 110]⟩, 0), (14, ⟨#[]⟩, 0), (10, ⟨#[101, 109]⟩, 1000)] := by decide +kernel
 have e2 : lead [(14, ⟨#[]⟩, 0), (10, ⟨#[101, 109]⟩, 1000)] = [(14, ⟨#[]⟩, 0), (10, ⟨#[101, 109]⟩, 1000)] := by decide +kernel
 have e3 : value (trim [(10, ⟨#[101, 109]⟩, 1000)]) = ([(10, ⟨#[101, 109]⟩, 1000)], false) := by decide +kernel
 unfold declL
 rw [e, declN, if_pos (by decide), e2, declV, e3, if_pos ⟨by decide, S.m⟩]
 decide +kernel
theorem awd3 : declL sd (sub awT 25 28) = some awD3 := by
 have e : trim (sub awT 25 28) = [(2, ⟨#[99, 111, 110, 116, 101, 110, 116]⟩, 0), (14, ⟨#[]⟩, 0), (6, ⟨#[120]⟩, 0)] := by decide +kernel
 have e2 : lead [(14, ⟨#[]⟩, 0), (6, ⟨#[120]⟩, 0)] = [(14, ⟨#[]⟩, 0), (6, ⟨#[120]⟩, 0)] := by decide +kernel
 have e3 : value (trim [(6, ⟨#[120]⟩, 0)]) = ([(6, ⟨#[120]⟩, 0)], false) := by decide +kernel
 unfold declL
 rw [e, declN, if_pos (by decide), e2, declV, e3, if_pos ⟨by decide, S.x⟩]
 decide +kernel
omit S in
theorem awd0 : declL sd (sub awT 8 9) = none := by
 have e : trim (sub awT 8 9) = [(2, ⟨#[100]⟩, 0)] := by decide +kernel
 unfold declL
 rw [e, declN, if_pos (by decide)]
 rfl
theorem awb1 : blk sd awT false 2 9 = ([awD1], []) := by
 rw [blk_decl sd awT (by decide) (by decide +kernel) (by decide +kernel), awf3, awd1 S]
 rw [blk_skip sd awT (a := 7) (by decide) (by decide +kernel)]
 rw [blk_decl sd awT (a := 8) (by decide) (by decide +kernel) (by decide +kernel), awf4, awd0]
 rw [blk_end sd awT (a := 9) (by decide)]
 rfl
theorem awb3 : blk sd awT false 25 28 = ([awD3], []) := by
 rw [blk_decl sd awT (by decide) (by decide +kernel) (by decide +kernel), awf7, awd3 S]
 rw [blk_end sd awT (a := 28) (by decide)]
 rfl
theorem awb2 : blk sd awT true 19 29 = ([awD2], [(⟨#[116, 111, 112, 45, 108, 101, 102, 116]⟩, [awD3])]) := by
 rw [blk_decl sd awT (by decide) (by decide +kernel) (by decide +kernel), awf5, awd2 S]
 rw [blk_skip sd awT (a := 22) (by decide) (by decide +kernel)]
 rw [blk_mar sd awT (a := 23) (by decide) (by decide +kernel) (by rw [awf6]; unfold marAt; decide +kernel), awf6, awk3, awg2, show min 28 29 = 28 from rfl, awb3 S]
 rw [blk_end sd awT (a := 29) (by decide)]
 have e : Ru.lowS (tk awT 23).2.1 = ⟨#[116, 111, 112, 45, 108, 101, 102, 116]⟩ := by decide +kernel
 rw [e]
 rfl
theorem aw_parse : parse sd awT = awL := by
 have a0 : isAt awT 0 = false := by decide +kernel
 have a1 : isAt awT 10 = true := by decide +kernel
 have a2 : isAt awT 14 = true := by decide +kernel
 have l : awT.length = 30 := rfl
 have e0 : endAt awT 0 = 1 := by unfold endAt; rw [a0, l]; exact awf0
 have e1 : endAt awT 10 = 13 := by unfold endAt; rw [a1, l]; exact awf1
 have e2 : endAt awT 14 = 18 := by unfold endAt; rw [a2, l]; exact awf2
 have t0 : trim (sub awT 0 1) = [(2, ⟨#[97]⟩, 0)] := by decide +kernel
 have t2 : trim (sub awT 15 18) = [(14, ⟨#[]⟩, 0), (2, ⟨#[108, 101, 102, 116]⟩, 0)] := by decide +kernel
 have r0 : isRule sd awT 0 := by
  unfold isRule
  rw [e0, a0, l]
  refine ⟨by decide, by decide +kernel, fun c => (by cases c), ?_⟩
  show sd (trim (sub awT 0 1)) = true
  rw [t0]; exact S.a
 have r1 : ¬ isRule sd awT 10 := by
  unfold isRule
  rw [e1]
  intro c
  exact absurd c.2.1 (by decide +kernel)
 have r2 : isRule sd awT 14 := by
  unfold isRule
  rw [e2, a2, l]
  refine ⟨by decide, by decide +kernel, fun _ => by decide +kernel, ?_⟩
  show sd (trim (sub awT 15 18)) = true
  rw [t2]; exact S.l
 rw [prs_0, prs_rule sd awT (by rw [l]; decide) (by decide +kernel) r0 (by rw [e0, awg0, l]; decide), e0, a0, awg0, awk0]
 rw [prs_no sd awT (a := 10) (by rw [l]; decide) (by decide +kernel) r1, e1, awk1]
 rw [prs_rule sd awT (a := 14) (by rw [l]; decide) (by decide +kernel) r2 (by rw [e2, awg1, l]; decide), e2, a2, awg1, awk2]
 rw [prs_end sd awT (a := 30) (by rw [l]; decide), awb1 S, awb2 S]
 show [((1 : Int), trim (sub awT 0 1), [awD1], ([] : List Margin)), (2, trim (sub awT 15 18), [awD2], [(⟨#[116, 111, 112, 45, 108, 101, 102, 116]⟩, [awD3])])] = awL
 rw [t0, t2]
 rfl
end
theorem sdU_small {us : List Tok} (hr : RtL us) (hl : us.length <= 2) (hk : ∀ t ∈ us, t.1 ≠ 3 /\ t.1 ≠ 12 /\ t.1 ≠ 13 /\ t.1 ≠ 7 /\ t.1 ≠ 11) : sdU us = true := by
 obtain ⟨ps, e, hR⟩ := hr
 refine (sdU_is us).2 ⟨(Pr.rightU_iff us).2 ⟨by omega, ps, e, hR⟩, ?_, fun i hi => ?_⟩
 ·rintro ⟨k, hk, h⟩
  have := opn_len us (k + 1)
  omega
 ·have h1 := hk _ (List.getElem_mem hi)
  rw [<- tk_eq hi] at h1
  have h2 := ends_none hi (not_O h1.1 h1.2.1)
  exact ⟨by omega, h1.2.2.2.1, fun c => h1.2.2.2.2 c.1, fun c => absurd c h1.2.2.1⟩
theorem nm_of {l : List Int} (h : ∀ c ∈ l, 0 < c /\ c < 128) (h2 : l ≠ []) : NmOk (str l) := ⟨l, ok_small h, h2, rfl⟩
theorem awS : AwS sdU := by
 have na : RtL [((2, str [97], 0) : Tok)] := rtl_name (.inl rfl) (nm_of (by decide) (by decide))
 have nc : RtL [((2, str [99], 0) : Tok)] := rtl_name (.inl rfl) (nm_of (by decide) (by decide))
 have nl : RtL [((2, str [108, 101, 102, 116], 0) : Tok)] := rtl_name (.inl rfl) (nm_of (by decide) (by decide))
 have nd : RtL [((10, str [101, 109], 1000) : Tok)] := rtl_one (t := (10, [101, 109], 1000)) ⟨ok_small (by decide), .inr (.inr (.inr (.inr (.inl ⟨rfl, by decide, by decide⟩))))⟩ (by decide)
 have nx : RtL [((6, str [120], 0) : Tok)] := rtl_one (t := (6, [120], 0)) ⟨ok_small (by decide), .inr (.inr (.inl ⟨.inl rfl, rfl⟩))⟩ (by decide)
 refine ⟨sdU_small na (by decide) (by decide), sdU_small nc (by decide) (by decide), sdU_small (us := [colT, (2, str [108, 101, 102, 116], 0)]) (rtl_cons rtl_col (by decide) (by decide) (by decide) nl) (by decide) (by decide), sdU_small nd (by decide) (by decide), sdU_small nx (by decide) (by decide)⟩
end Rl
namespace Rl
open Tk Ru
end Rl
end Go.Proofs.YtllmjggejbdpcaaGreatDoor
namespace Go.Proofs.YtllmjggejbdpcaaGreatDoor
namespace Tk
open Ru
def hk : List Tok -> Int
 | [] => 0
 | t :: _ => t.1
theorem enc_pos (c : Int) : 0 < (Lib.encodeRuneZ c).length := by
 rcases (show (0 <= c /\ c <= 127) ∨ (128 <= c /\ c <= 2047) ∨ ((2048 <= c /\ c < 55296) ∨ (57343 < c /\ c <= 65535)) ∨ (65536 <= c /\ c <= 1114111) ∨ (c < 0 ∨ (55296 <= c /\ c <= 57343) ∨ 1114111 < c) by omega) with h | h | h | h | h
 ·rw [Lib.encodeRuneZ_one h.1 h.2]; simp
 ·rw [Lib.encodeRuneZ_two h.1 h.2]; simp
 ·rw [Lib.encodeRuneZ_three h]; simp
 ·rw [Lib.encodeRuneZ_four h.1 h.2]; simp
 ·rw [Lib.encodeRuneZ_bad h]; simp
theorem qF_kind : ∀ (f : Nat) (l : List Int) (e : Int) (k : Nat), (qF f l e k).1 = 6 ∨ ((qF f l e k).1 = 7 /\ (qF f l e k).2.2 < l.length /\ g l (qF f l e k).2.2 = 10)
 | 0, _, _, _ => .inl rfl
 | f + 1, l, e, k => by
   unfold qF
   split
   ·exact .inl rfl
   ·rename_i h0
    have h1 : k < l.length := by
     by_cases c : k < l.length
     ·exact c
     ·exact absurd (fun hh => c hh.1) h0
    split
    ·rename_i h10
     exact .inr ⟨rfl, h1, h10⟩
    ·split
     ·exact qF_kind f l e _
     ·split
      ·exact qF_kind f l e _
      ·exact qF_kind f l e _
def nk (ts : List Tok) (i : Nat) : Int := if i + 1 < ts.length then (ts.getD (i + 1) (0, ⟨#[]⟩, 0)).1 else 0
end Tk
end Go.Proofs.YtllmjggejbdpcaaGreatDoor
namespace Go.Proofs.YtllmjggejbdpcaaGreatDoor
open Go.RowKit
namespace Rl
open Tk Ru
theorem scan_each {l : List Int} {P : Tok -> Prop} (h1 : P (1, ⟨#[]⟩, 0)) (h2 : ∀ k, k < l.length -> P (tokOf (nxt l k))) : ∀ (m k : Nat), l.length - k <= m -> k <= l.length -> ∀ t ∈ scan l k, P t
 | m, k, hm, hk, t, ht => by
   by_cases hlt : k < l.length
   ·have hsl := Tk.sp_le l k false hk
    have hsp : ∀ b, t ∈ spTok b -> P t := fun b hb => by
     cases b
     ·cases hb
     ·obtain rfl : t = (1, ⟨#[]⟩, 0) := by simpa [spTok] using hb
      exact h1
    by_cases hl2 : (Tk.sp l k false).1 < l.length
    ·have hn := nxt_le hl2
     rw [scan_on hlt hl2] at ht
     rcases List.mem_append.1 ht with ht | ht
     ·rcases List.mem_append.1 ht with ht | ht
      ·exact hsp _ ht
      ·rw [List.mem_singleton] at ht
       rw [ht]
       exact h2 _ hl2
     ·match m, hm with
      | 0, hm => omega
      | m + 1, hm => exact scan_each h1 h2 m _ (by omega) hn.2 t ht
    ·rw [scan_last hlt hl2] at ht
     exact hsp _ ht
   ·rw [scan_end hlt] at ht
    cases ht
end Rl
namespace Rl
open Tk Ru
theorem nameF_len : ∀ (f : Nat) (l : List Int) (k : Nat), (nameF f l k).1.length <= f
 | 0, l, k => Nat.le_refl _
 | f + 1, l, k => by
   rw [nameF]
   split
   ·have := nameF_len f l (oneN l k).2
    simp only [List.length_cons]; omega
   ·simp
theorem name_len (l : List Int) (k : Nat) : (name l k).1.length <= l.length := nameF_len _ _ _
theorem qF_len : ∀ (f : Nat) (l : List Int) (e : Int) (k : Nat), (qF f l e k).2.1.length <= f
 | 0, l, e, k => Nat.le_refl _
 | f + 1, l, e, k => by
   rw [qF]
   have h1 := qF_len f l e (meant l k).2
   have h2 := qF_len f l e (k + 2)
   have h3 := qF_len f l e (k + 1)
   repeat' split
   ·simp
   ·simp
   ·unfold push; simp only [List.length_cons]; omega
   ·omega
   ·unfold push; simp only [List.length_cons]; omega
theorem qq_len (l : List Int) (e : Int) (k : Nat) : (qq l e k).2.1.length <= l.length := qF_len _ _ _ _
theorem str_size (l : List Int) : (str l).size <= 4 * l.length := by
 have h := wr_len l
 unfold str
 rw [strOfNums_size]; exact h
theorem i64_small {n : Int} (h1 : -1099511627776 <= n) (h2 : n <= 1099511627776) : I64 n := by unfold I64; omega
theorem pv_i64 (t : List UInt8) : I64 (pv t) := by
 unfold pv
 split
 ·unfold Fx.num Fx.mag
  split
  ·exact i64_small (by omega) (by omega)
  ·exact i64_small (by omega) (by omega)
 ·exact i64_small (by decide) (by decide)
def Sc1 (n : Nat) (t : Tok) : Prop := I64 t.1 /\ I64 t.2.2 /\ t.2.1.size <= 4 * n
theorem sc1 {n : Nat} {r : Int × ByteArray × Int × Nat} (h1 : 0 <= r.1 /\ r.1 <= 100) (h2 : I64 r.2.2.1) (h3 : r.2.1.size <= 4 * n) : Sc1 n (tokOf r) := ⟨i64_small (by unfold tokOf; omega) (by unfold tokOf; omega), h2, h3⟩
theorem i64_0 : I64 0 := i64_small (by decide) (by decide)
theorem nval_i64 (l : List Int) (k : Nat) : I64 (nval l k) := by unfold nval; exact pv_i64 _
theorem nxt_sc {l : List Int} {k : Nat} (hk : k < l.length) : Sc1 l.length (tokOf (nxt l k)) := by
 have hn : ∀ k, (str (name l k).1).size <= 4 * l.length := fun k => by
  have h1 := str_size (name l k).1
  have h2 := name_len l k
  omega
 have he : (⟨#[]⟩ : ByteArray).size <= 4 * l.length := Nat.zero_le _
 have h1 : ∀ c, (str [c]).size <= 4 * l.length := fun c => by
  have := str_size [c]
  simp only [List.length_cons, List.length_nil] at this
  omega
 have hs : 0 <= symK (g l k) /\ symK (g l k) <= 100 := by
  unfold symK
  repeat' split
  all_goals omega
 have hq : 0 <= (qq l (g l k) (k + 1)).1 /\ (qq l (g l k) (k + 1)).1 <= 100 := by
  have hq : (qq l (g l k) (k + 1)).1 = 6 ∨ ((qq l (g l k) (k + 1)).1 = 7 /\ (qq l (g l k) (k + 1)).2.2 < l.length /\ g l (qq l (g l k) (k + 1)).2.2 = 10) := qF_kind _ _ _ _
  omega
 have hq2 : (str (qq l (g l k) (k + 1)).2.1).size <= 4 * l.length := by
  have h1 := str_size (qq l (g l k) (k + 1)).2.1
  have h2 := qq_len l (g l k) (k + 1)
  omega
 have hv := nval_i64 l k
 unfold nxt rest
 generalize nval l k = nv at *
 generalize qq l (g l k) (k + 1) = q at *
 generalize symK (g l k) = sy at *
 have hn1 := hn k
 have hn2 := hn (k + 1)
 have hn3 := hn (k + nlen l k)
 have hc := h1 (g l k)
 generalize name l k = n1 at *
 generalize name l (k + 1) = n2 at *
 generalize name l (k + nlen l k) = n3 at *
 clear hn h1 hk
 generalize str [g l k] = sg at *
 repeat' split
 ·exact sc1 hq i64_0 hq2
 ·exact sc1 ⟨by dsimp only; omega, by dsimp only; omega⟩ i64_0 hn2
 ·exact sc1 ⟨by dsimp only; omega, by dsimp only; omega⟩ hv hn3
 ·exact sc1 ⟨by dsimp only; omega, by dsimp only; omega⟩ hv he
 ·exact sc1 ⟨by dsimp only; omega, by dsimp only; omega⟩ hv he
 ·exact sc1 ⟨by dsimp only; omega, by dsimp only; omega⟩ i64_0 hn2
 ·exact sc1 ⟨by dsimp only; omega, by dsimp only; omega⟩ i64_0 hn1
 ·exact sc1 ⟨by dsimp only; omega, by dsimp only; omega⟩ i64_0 hn1
 ·exact sc1 ⟨by dsimp only; omega, by dsimp only; omega⟩ i64_0 he
 ·exact sc1 ⟨by dsimp only; omega, by dsimp only; omega⟩ i64_0 he
 ·exact sc1 ⟨by dsimp only; omega, by dsimp only; omega⟩ i64_0 he
 ·exact sc1 hs i64_0 hc
theorem scan_sc (l : List Int) : ∀ t ∈ scan l 0, Sc1 l.length t :=
 scan_each (P := Sc1 l.length) ⟨i64_small (by decide) (by decide), i64_0, Nat.zero_le _⟩ (fun _ hk => nxt_sc hk) _ 0 (Nat.le_refl _) (Nat.zero_le _)
theorem scan_wf (l : List Int) : Pr.Wf (scan l 0) := fun j hj => by
 have := scan_sc l _ (List.getElem_mem hj)
 rw [tk_eq hj]
 exact ⟨this.1, this.2.1⟩
theorem scan_fair {l : List Int} (h : l.length <= 8000) : Pr.FairB (scan l 0) := by
 refine ⟨?_, fun j hj => ?_⟩
 ·have := scan_len l _ 0 (Nat.le_refl _)
  omega
 ·have := (scan_sc l _ (List.getElem_mem hj)).2.2
  rw [tk_eq hj]
  omega
end Rl
theorem plain_any (c : Int) (w : World) :
 Calls Tryz.prog 84 #[.int .i32 c] w fun e w' => e = .returned (.int .i32 (Ru.plain c)) /\ w = w' := by
 by_cases a1 : c = 13
 ·subst a1
  go_enter Tryz.func84, Tryz.ntmps84
  go_wp2_with fail
  go_ret
  exact ⟨rfl, rfl⟩
 ·by_cases a2 : c = 12
  ·subst a2
   go_enter Tryz.func84, Tryz.ntmps84
   go_wp2_with fail
   go_ret
   exact ⟨rfl, rfl⟩
  ·by_cases a3 : c = 0
   ·subst a3
    go_enter Tryz.func84, Tryz.ntmps84
    go_wp2_with fail
    go_ret
    exact ⟨rfl, rfl⟩
   ·have e1 := Ru.eq_f a1
    have e2 := Ru.eq_f a2
    have e3 := Ru.eq_f a3
    go_enter Tryz.func84, Tryz.ntmps84
    go_wp2_with fail
    go_ret
    exact ⟨ret_int (by unfold Ru.plain; simp [a1, a2, a3]), rfl⟩
theorem hex_any (c : Int) (w : World) :
 Calls Tryz.prog 193 #[.int .i32 c] w fun e w' => e = .returned (.int .i64 (Ru.hexV c)) /\ w = w' := by
 by_cases b : 48 <= c /\ c <= 57
 ·have hd : Ru.digB c = true := decide_eq_true b
  obtain ⟨b1, b2⟩ := b
  go_enter Tryz.func193, Tryz.ntmps193
  go_wp2_with (go_at_call 157; refine (isdigit_any _ _).mono ?_; rintro e w' ⟨rfl, rfl⟩)
  go_ret
  exact ⟨ret_int (by unfold Ru.hexV; rw [if_pos ⟨b1, b2⟩]), rfl⟩
 ·have hd : Ru.digB c = false := decide_eq_false b
  by_cases a1 : 97 <= c <;> by_cases a2 : c <= 102 <;> by_cases a3 : 65 <= c <;> by_cases a4 : c <= 70
  all_goals try omega
  all_goals
   go_enter Tryz.func193, Tryz.ntmps193
   go_wp2_with (go_at_call 157; refine (isdigit_any _ _).mono ?_; rintro e w' ⟨rfl, rfl⟩)
   go_ret
   exact ⟨ret_int (by unfold Ru.hexV; omega), rfl⟩
end Go.Proofs.YtllmjggejbdpcaaGreatDoor
namespace Go.Proofs
open Go.Shelf Go.RowKit
def Tryz.lays7n32_ren : Go.Shelf.Ren := ⟨fun | 32 => 150 | 49 => 189 | n => n, fun | 0 => 0 | 3 => 3 | 4 => 4 | 5 => 5 | 21 => 21 | 25 => 189 | 30 => 22 | 33 => 132 | 66 => 207 | 68 => 209 | 69 => 210 | n => n, fun | 2 => 1 | 3 => 2 | n => n⟩
theorem Tryz.lays7n32 : Go.Proofs.Lays7.n32 Tryz.prog Tryz.lays7n32_ren := {
 mixed := by kernel_rfl
 f32 := Tryz.func150.trans (congrArg some (by kernel_rfl))
 f49 := Tryz.func189.trans (congrArg some (by kernel_rfl))
 t0 := Tryz.underlying0
 a0 := Tryz.isAgg0
 z0 := Tryz.sizeOf0
 v0 := Tryz.zeroValue0
 i0 := by kernel_rfl
 t3 := Tryz.underlying3
 a3 := Tryz.isAgg3
 z3 := Tryz.sizeOf3
 v3 := Tryz.zeroValue3
 i3 := by kernel_rfl
 t4 := Tryz.underlying4
 a4 := Tryz.isAgg4
 z4 := Tryz.sizeOf4
 v4 := Tryz.zeroValue4
 i4 := by kernel_rfl
 t5 := Tryz.underlying5
 a5 := Tryz.isAgg5
 z5 := Tryz.sizeOf5
 v5 := Tryz.zeroValue5
 i5 := by kernel_rfl
 t21 := Tryz.underlying21
 a21 := Tryz.isAgg21
 z21 := Tryz.sizeOf21
 v21 := Tryz.zeroValue21
 i21 := by kernel_rfl
 t25 := Tryz.underlying189
 a25 := Tryz.isAgg189
 z25 := Tryz.sizeOf189
 v25 := Tryz.zeroValue189
 i25 := by kernel_rfl
 t30 := Tryz.underlying22
 a30 := Tryz.isAgg22
 z30 := Tryz.sizeOf22
 v30 := Tryz.zeroValue22
 i30 := by kernel_rfl
 t33 := Tryz.underlying132
 a33 := Tryz.isAgg132
 z33 := Tryz.sizeOf132
 v33 := Tryz.zeroValue132
 i33 := by kernel_rfl
 t66 := Tryz.underlying207
 a66 := Tryz.isAgg207
 z66 := Tryz.sizeOf207
 t68 := Tryz.underlying209
 a68 := Tryz.isAgg209
 z68 := Tryz.sizeOf209
 v68 := Tryz.zeroValue209
 i68 := by kernel_rfl
 t69 := Tryz.underlying210
 a69 := Tryz.isAgg210
 z69 := Tryz.sizeOf210
 v69 := Tryz.zeroValue210
 i69 := by kernel_rfl
 g2 := by kernel_rfl
 g3 := by kernel_rfl }
def Tryz.lays7n31_ren : Go.Shelf.Ren := ⟨fun | 31 => 82 | 48 => 149 | n => n, fun | 0 => 0 | 3 => 3 | 4 => 4 | 5 => 5 | 9 => 9 | 30 => 22 | n => n, fun | n => n⟩
theorem Tryz.lays7n31 : Go.Proofs.Lays7.n31 Tryz.prog Tryz.lays7n31_ren := {
 mixed := by kernel_rfl
 f31 := Tryz.func82.trans (congrArg some (by kernel_rfl))
 f48 := Tryz.func149.trans (congrArg some (by kernel_rfl))
 t0 := Tryz.underlying0
 a0 := Tryz.isAgg0
 z0 := Tryz.sizeOf0
 v0 := Tryz.zeroValue0
 i0 := by kernel_rfl
 t3 := Tryz.underlying3
 a3 := Tryz.isAgg3
 z3 := Tryz.sizeOf3
 v3 := Tryz.zeroValue3
 i3 := by kernel_rfl
 t4 := Tryz.underlying4
 a4 := Tryz.isAgg4
 z4 := Tryz.sizeOf4
 v4 := Tryz.zeroValue4
 i4 := by kernel_rfl
 t5 := Tryz.underlying5
 a5 := Tryz.isAgg5
 z5 := Tryz.sizeOf5
 v5 := Tryz.zeroValue5
 i5 := by kernel_rfl
 t9 := Tryz.underlying9
 a9 := Tryz.isAgg9
 z9 := Tryz.sizeOf9
 v9 := Tryz.zeroValue9
 i9 := by kernel_rfl
 t30 := Tryz.underlying22
 a30 := Tryz.isAgg22
 z30 := Tryz.sizeOf22
 v30 := Tryz.zeroValue22
 i30 := by kernel_rfl }
theorem Tryz.utf8_DecodeRune (s : ByteArray) (b off cap : Nat) (w : World) (hT : Lib.Utf8Tabs 1 2 w) (hp : ∀ j, j < s.size -> w.cell? ⟨b, off + j, none⟩ = some (.int .u8 (s.get! j).toNat)) :
 Calls Tryz.prog 150 #[.slice (some ⟨b, off, none⟩) s.size cap] w fun e w' => e = .returned (.tuple #[.int .i32 (Lib.decodeGo s).1, .int .i64 (Lib.decodeGo s).2]) /\ Below w.heap.size w w' := Any7.utf8_DecodeRune Tryz.lays7n32 s b off cap w hT hp
theorem Tryz.utf8_RuneCount (s : ByteArray) (b off cap : Nat) (w : World) (hcap : s.size <= cap) (hp : ∀ j, j < s.size -> w.cell? ⟨b, off + j, none⟩ = some (.int .u8 (s.get! j).toNat)) (hs : s.size < 9223372036854775807) :
 Calls Tryz.prog 82 #[.slice (some ⟨b, off, none⟩) s.size cap] w fun e w' => e = .returned (.int .i64 (Lib.runeCount s)) /\ (w' = w ∨ ∃ t pos, w' = w.iter t pos) := Any7.utf8_RuneCount Tryz.lays7n31 s b off cap w hcap hp hs
end Go.Proofs
namespace Go.Proofs.YtllmjggejbdpcaaGreatDoor
open Go.RowKit
end Go.Proofs.YtllmjggejbdpcaaGreatDoor
namespace Go.Proofs.YtllmjggejbdpcaaGreatDoor
open Go.RowKit Go.Lib
namespace Ru
theorem need_of {x : Nat} (h : firstT x < 240) : need (x : Int) ≠ 0 := fun h0 => by
 by_cases h1 : x < 128
 ·rw [firstT_ascii h1] at h; omega
 ·rw [firstT_none h1 h0] at h; omega
theorem ascii_of {x : Nat} (h : firstT x = 240) : x < 128 := by
 by_cases h1 : x < 128
 ·exact h1
 ·by_cases h0 : need (x : Int) = 0
  ·rw [firstT_none h1 h0] at h; omega
  ·have := (firstT_some h0).1; omega
theorem none_of {x : Nat} (h : firstT x = 241) : need (x : Int) = 0 := by
 by_cases h0 : need (x : Int) = 0
 ·exact h0
 ·have := (firstT_some h0).1; omega
theorem full_t {m a b c : Int} (h : (a < 128 ∨ need a <= m) ∨ (1 < m /\ (b < lo2 a ∨ hi2 a < b)) ∨ (2 < m /\ (c < 128 ∨ 191 < c))) : full m a b c = true := decide_eq_true h
theorem full_f {m a b c : Int} (h : ¬ ((a < 128 ∨ need a <= m) ∨ (1 < m /\ (b < lo2 a ∨ hi2 a < b)) ∨ (2 < m /\ (c < 128 ∨ 191 < c)))) : full m a b c = false := decide_eq_false h
end Ru
theorem full_end (w : World) (o : Obj) (n : Nat) : Below w.heap.size w ((w.alloc o).drewN n) := below_drewN ((Below.refl _ _).alloc (Nat.le_refl _) _) _
end Go.Proofs.YtllmjggejbdpcaaGreatDoor
namespace Go.Proofs.YtllmjggejbdpcaaGreatDoor
open Go.RowKit Go.Lib
theorem full_240 (n x0 x1 x2 b off cap : Nat) (w : World) (hn : 1 <= n) (hm : n <= 9223372036854775807) (hT : Utf8Tabs 1 2 w) (l0 : x0 < 256)
 (hs0 : w.cell? ⟨b, off, none⟩ = some (.int .u8 x0)) (_hq1 : 1 < n -> w.cell? ⟨b, off + 1, none⟩ = some (.int .u8 x1)) (_hq2 : 2 < n -> w.cell? ⟨b, off + 2, none⟩ = some (.int .u8 x2)) (hX : firstT x0 = 240) :
 Calls Tryz.prog 190 #[.slice (some ⟨b, off, none⟩) n cap] w fun e w' => e = .returned (.bool (Ru.full n x0 x1 x2)) /\ Below w.heap.size w w' := by
 have hb : b < w.heap.size := World.block_lt_of_cell? w _ hs0
 have hz0 : ((n : Int) == 0) = false := Ru.eq_f (by omega)
 have hc0 := hT.1 x0 (by omega)
 have hF : Ru.full n x0 x1 x2 = true := Ru.full_t (Or.inl (Or.inl (by have := Ru.ascii_of hX; omega)))
 rw [hX] at hc0
 have HF := Lib.hid hF
 clear hF hX hT
 go_enter Tryz.func190, Tryz.ntmps190
 go_wp2
 go_ret
 exact ⟨ret_bool HF.out.symm, Below.refl _ _⟩
theorem full_241 (n x0 x1 x2 b off cap : Nat) (w : World) (hn : 1 <= n) (hm : n <= 9223372036854775807) (hT : Utf8Tabs 1 2 w) (l0 : x0 < 256)
 (hs0 : w.cell? ⟨b, off, none⟩ = some (.int .u8 x0)) (_hq1 : 1 < n -> w.cell? ⟨b, off + 1, none⟩ = some (.int .u8 x1)) (_hq2 : 2 < n -> w.cell? ⟨b, off + 2, none⟩ = some (.int .u8 x2)) (hX : firstT x0 = 241) :
 Calls Tryz.prog 190 #[.slice (some ⟨b, off, none⟩) n cap] w fun e w' => e = .returned (.bool (Ru.full n x0 x1 x2)) /\ Below w.heap.size w w' := by
 have hb : b < w.heap.size := World.block_lt_of_cell? w _ hs0
 have hz0 : ((n : Int) == 0) = false := Ru.eq_f (by omega)
 have hc0 := hT.1 x0 (by omega)
 have hF : Ru.full n x0 x1 x2 = true := Ru.full_t (Or.inl (Or.inr (by have := Ru.none_of hX; omega)))
 rw [hX] at hc0
 have HF := Lib.hid hF
 clear hF hX hT
 go_enter Tryz.func190, Tryz.ntmps190
 go_wp2
 go_ret
 exact ⟨ret_bool HF.out.symm, Below.refl _ _⟩
theorem full_2 (n x0 x1 x2 b off cap : Nat) (w : World) (hn : 1 <= n) (hm : n <= 9223372036854775807) (hT : Utf8Tabs 1 2 w) (l0 : x0 < 256)
 (hs0 : w.cell? ⟨b, off, none⟩ = some (.int .u8 x0)) (hq1 : 1 < n -> w.cell? ⟨b, off + 1, none⟩ = some (.int .u8 x1)) (hq2 : 2 < n -> w.cell? ⟨b, off + 2, none⟩ = some (.int .u8 x2)) (hX : firstT x0 = 2) :
 Calls Tryz.prog 190 #[.slice (some ⟨b, off, none⟩) n cap] w fun e w' => e = .returned (.bool (Ru.full n x0 x1 x2)) /\ Below w.heap.size w w' := by
 have hb : b < w.heap.size := World.block_lt_of_cell? w _ hs0
 have hz0 : ((n : Int) == 0) = false := Ru.eq_f (by omega)
 have hc0 := hT.1 x0 (by omega)
 obtain ⟨_, k1, k2, k3⟩ := Ru.firstT_some (Ru.need_of (x := x0) (by omega))
 rw [hX] at hc0 k1 k2 k3
 have k4 : ¬ x0 < 128 := fun h => by have := Ru.firstT_ascii h; omega
 have ha0 := (hT.2 0 (by omega)).1
 have ha1 := (hT.2 0 (by omega)).2
 simp only [accLo, accHi, Nat.reduceMul, Nat.reduceAdd, Nat.reduceEqDiff, if_true, if_false, Nat.reduceMod, Nat.reduceDiv] at ha0 ha1 k1 k2 k3
 have HX : Hid ((Ru.need (x0 : Int) = 2 /\ Ru.lo2 (x0 : Int) = 128 /\ Ru.hi2 (x0 : Int) = 191) /\ ¬ x0 < 128) := ⟨⟨by omega, by omega, by omega⟩, k4⟩
 clear hX hT k1 k2 k3 k4
 by_cases hsz : 2 <= n
 ·clear hq1 hq2
  go_enter Tryz.func190, Tryz.ntmps190
  go_wp2
  go_ret
  exact ⟨ret_bool (Ru.full_t (by have := HX.out; omega)).symm, Below.refl _ _⟩
 ·rcases (show n = 1 by omega) with rfl
  clear hq1 hq2
  go_enter Tryz.func190, Tryz.ntmps190
  go_wp2
  go_quiet (fail)
  go_wp2
  go_ret
  exact ⟨ret_bool (Ru.full_f (by have := HX.out; omega)).symm, full_end _ _ _⟩
theorem full_19 (n x0 x1 x2 b off cap : Nat) (w : World) (hn : 1 <= n) (hm : n <= 9223372036854775807) (hT : Utf8Tabs 1 2 w) (l0 : x0 < 256)
 (hs0 : w.cell? ⟨b, off, none⟩ = some (.int .u8 x0)) (hq1 : 1 < n -> w.cell? ⟨b, off + 1, none⟩ = some (.int .u8 x1)) (hq2 : 2 < n -> w.cell? ⟨b, off + 2, none⟩ = some (.int .u8 x2)) (hX : firstT x0 = 19) :
 Calls Tryz.prog 190 #[.slice (some ⟨b, off, none⟩) n cap] w fun e w' => e = .returned (.bool (Ru.full n x0 x1 x2)) /\ Below w.heap.size w w' := by
 have hb : b < w.heap.size := World.block_lt_of_cell? w _ hs0
 have hz0 : ((n : Int) == 0) = false := Ru.eq_f (by omega)
 have hc0 := hT.1 x0 (by omega)
 obtain ⟨_, k1, k2, k3⟩ := Ru.firstT_some (Ru.need_of (x := x0) (by omega))
 rw [hX] at hc0 k1 k2 k3
 have k4 : ¬ x0 < 128 := fun h => by have := Ru.firstT_ascii h; omega
 have ha0 := (hT.2 1 (by omega)).1
 have ha1 := (hT.2 1 (by omega)).2
 simp only [accLo, accHi, Nat.reduceMul, Nat.reduceAdd, Nat.reduceEqDiff, if_true, if_false, Nat.reduceMod, Nat.reduceDiv] at ha0 ha1 k1 k2 k3
 have HX : Hid ((Ru.need (x0 : Int) = 3 /\ Ru.lo2 (x0 : Int) = 160 /\ Ru.hi2 (x0 : Int) = 191) /\ ¬ x0 < 128) := ⟨⟨by omega, by omega, by omega⟩, k4⟩
 clear hX hT k1 k2 k3 k4
 by_cases hsz : 3 <= n
 ·clear hq1 hq2
  go_enter Tryz.func190, Tryz.ntmps190
  go_wp2
  go_ret
  exact ⟨ret_bool (Ru.full_t (by have := HX.out; omega)).symm, Below.refl _ _⟩
 ·rcases (show n = 1 ∨ n = 2 by omega) with rfl | rfl
  ·clear hq1 hq2
   go_enter Tryz.func190, Tryz.ntmps190
   go_wp2
   go_quiet (fail)
   go_wp2
   go_ret
   exact ⟨ret_bool (Ru.full_f (by have := HX.out; omega)).symm, full_end _ _ _⟩
  ·have hs1 := hq1 (by omega)
   clear hq1 hq2
   by_cases b1 : (x1 : Int) < 160
   ·go_enter Tryz.func190, Tryz.ntmps190
    go_wp2
    go_quiet (fail)
    go_wp2
    go_ret
    exact ⟨ret_bool (Ru.full_t (by have := HX.out; omega)).symm, full_end _ _ _⟩
   ·by_cases b2 : (191 : Int) < x1
    ·go_enter Tryz.func190, Tryz.ntmps190
     go_wp2
     go_quiet (fail)
     go_wp2
     go_ret
     exact ⟨ret_bool (Ru.full_t (by have := HX.out; omega)).symm, full_end _ _ _⟩
    ·go_enter Tryz.func190, Tryz.ntmps190
     go_wp2
     go_quiet (fail)
     go_wp2
     go_ret
     exact ⟨ret_bool (Ru.full_f (by have := HX.out; omega)).symm, full_end _ _ _⟩
theorem full_3 (n x0 x1 x2 b off cap : Nat) (w : World) (hn : 1 <= n) (hm : n <= 9223372036854775807) (hT : Utf8Tabs 1 2 w) (l0 : x0 < 256)
 (hs0 : w.cell? ⟨b, off, none⟩ = some (.int .u8 x0)) (hq1 : 1 < n -> w.cell? ⟨b, off + 1, none⟩ = some (.int .u8 x1)) (hq2 : 2 < n -> w.cell? ⟨b, off + 2, none⟩ = some (.int .u8 x2)) (hX : firstT x0 = 3) :
 Calls Tryz.prog 190 #[.slice (some ⟨b, off, none⟩) n cap] w fun e w' => e = .returned (.bool (Ru.full n x0 x1 x2)) /\ Below w.heap.size w w' := by
 have hb : b < w.heap.size := World.block_lt_of_cell? w _ hs0
 have hz0 : ((n : Int) == 0) = false := Ru.eq_f (by omega)
 have hc0 := hT.1 x0 (by omega)
 obtain ⟨_, k1, k2, k3⟩ := Ru.firstT_some (Ru.need_of (x := x0) (by omega))
 rw [hX] at hc0 k1 k2 k3
 have k4 : ¬ x0 < 128 := fun h => by have := Ru.firstT_ascii h; omega
 have ha0 := (hT.2 0 (by omega)).1
 have ha1 := (hT.2 0 (by omega)).2
 simp only [accLo, accHi, Nat.reduceMul, Nat.reduceAdd, Nat.reduceEqDiff, if_true, if_false, Nat.reduceMod, Nat.reduceDiv] at ha0 ha1 k1 k2 k3
 have HX : Hid ((Ru.need (x0 : Int) = 3 /\ Ru.lo2 (x0 : Int) = 128 /\ Ru.hi2 (x0 : Int) = 191) /\ ¬ x0 < 128) := ⟨⟨by omega, by omega, by omega⟩, k4⟩
 clear hX hT k1 k2 k3 k4
 by_cases hsz : 3 <= n
 ·clear hq1 hq2
  go_enter Tryz.func190, Tryz.ntmps190
  go_wp2
  go_ret
  exact ⟨ret_bool (Ru.full_t (by have := HX.out; omega)).symm, Below.refl _ _⟩
 ·rcases (show n = 1 ∨ n = 2 by omega) with rfl | rfl
  ·clear hq1 hq2
   go_enter Tryz.func190, Tryz.ntmps190
   go_wp2
   go_quiet (fail)
   go_wp2
   go_ret
   exact ⟨ret_bool (Ru.full_f (by have := HX.out; omega)).symm, full_end _ _ _⟩
  ·have hs1 := hq1 (by omega)
   clear hq1 hq2
   by_cases b1 : (x1 : Int) < 128
   ·go_enter Tryz.func190, Tryz.ntmps190
    go_wp2
    go_quiet (fail)
    go_wp2
    go_ret
    exact ⟨ret_bool (Ru.full_t (by have := HX.out; omega)).symm, full_end _ _ _⟩
   ·by_cases b2 : (191 : Int) < x1
    ·go_enter Tryz.func190, Tryz.ntmps190
     go_wp2
     go_quiet (fail)
     go_wp2
     go_ret
     exact ⟨ret_bool (Ru.full_t (by have := HX.out; omega)).symm, full_end _ _ _⟩
    ·go_enter Tryz.func190, Tryz.ntmps190
     go_wp2
     go_quiet (fail)
     go_wp2
     go_ret
     exact ⟨ret_bool (Ru.full_f (by have := HX.out; omega)).symm, full_end _ _ _⟩
end Go.Proofs.YtllmjggejbdpcaaGreatDoor
namespace Go.Proofs.YtllmjggejbdpcaaGreatDoor
open Go.RowKit Go.Lib
theorem full_35 (n x0 x1 x2 b off cap : Nat) (w : World) (hn : 1 <= n) (hm : n <= 9223372036854775807) (hT : Utf8Tabs 1 2 w) (l0 : x0 < 256)
 (hs0 : w.cell? ⟨b, off, none⟩ = some (.int .u8 x0)) (hq1 : 1 < n -> w.cell? ⟨b, off + 1, none⟩ = some (.int .u8 x1)) (hq2 : 2 < n -> w.cell? ⟨b, off + 2, none⟩ = some (.int .u8 x2)) (hX : firstT x0 = 35) :
 Calls Tryz.prog 190 #[.slice (some ⟨b, off, none⟩) n cap] w fun e w' => e = .returned (.bool (Ru.full n x0 x1 x2)) /\ Below w.heap.size w w' := by
 have hb : b < w.heap.size := World.block_lt_of_cell? w _ hs0
 have hz0 : ((n : Int) == 0) = false := Ru.eq_f (by omega)
 have hc0 := hT.1 x0 (by omega)
 obtain ⟨_, k1, k2, k3⟩ := Ru.firstT_some (Ru.need_of (x := x0) (by omega))
 rw [hX] at hc0 k1 k2 k3
 have k4 : ¬ x0 < 128 := fun h => by have := Ru.firstT_ascii h; omega
 have ha0 := (hT.2 2 (by omega)).1
 have ha1 := (hT.2 2 (by omega)).2
 simp only [accLo, accHi, Nat.reduceMul, Nat.reduceAdd, Nat.reduceEqDiff, if_true, if_false, Nat.reduceMod, Nat.reduceDiv] at ha0 ha1 k1 k2 k3
 have HX : Hid ((Ru.need (x0 : Int) = 3 /\ Ru.lo2 (x0 : Int) = 128 /\ Ru.hi2 (x0 : Int) = 159) /\ ¬ x0 < 128) := ⟨⟨by omega, by omega, by omega⟩, k4⟩
 clear hX hT k1 k2 k3 k4
 by_cases hsz : 3 <= n
 ·clear hq1 hq2
  go_enter Tryz.func190, Tryz.ntmps190
  go_wp2
  go_ret
  exact ⟨ret_bool (Ru.full_t (by have := HX.out; omega)).symm, Below.refl _ _⟩
 ·rcases (show n = 1 ∨ n = 2 by omega) with rfl | rfl
  ·clear hq1 hq2
   go_enter Tryz.func190, Tryz.ntmps190
   go_wp2
   go_quiet (fail)
   go_wp2
   go_ret
   exact ⟨ret_bool (Ru.full_f (by have := HX.out; omega)).symm, full_end _ _ _⟩
  ·have hs1 := hq1 (by omega)
   clear hq1 hq2
   by_cases b1 : (x1 : Int) < 128
   ·go_enter Tryz.func190, Tryz.ntmps190
    go_wp2
    go_quiet (fail)
    go_wp2
    go_ret
    exact ⟨ret_bool (Ru.full_t (by have := HX.out; omega)).symm, full_end _ _ _⟩
   ·by_cases b2 : (159 : Int) < x1
    ·go_enter Tryz.func190, Tryz.ntmps190
     go_wp2
     go_quiet (fail)
     go_wp2
     go_ret
     exact ⟨ret_bool (Ru.full_t (by have := HX.out; omega)).symm, full_end _ _ _⟩
    ·go_enter Tryz.func190, Tryz.ntmps190
     go_wp2
     go_quiet (fail)
     go_wp2
     go_ret
     exact ⟨ret_bool (Ru.full_f (by have := HX.out; omega)).symm, full_end _ _ _⟩
theorem full_52 (n x0 x1 x2 b off cap : Nat) (w : World) (hn : 1 <= n) (hm : n <= 9223372036854775807) (hT : Utf8Tabs 1 2 w) (l0 : x0 < 256)
 (hs0 : w.cell? ⟨b, off, none⟩ = some (.int .u8 x0)) (hq1 : 1 < n -> w.cell? ⟨b, off + 1, none⟩ = some (.int .u8 x1)) (hq2 : 2 < n -> w.cell? ⟨b, off + 2, none⟩ = some (.int .u8 x2)) (hX : firstT x0 = 52) :
 Calls Tryz.prog 190 #[.slice (some ⟨b, off, none⟩) n cap] w fun e w' => e = .returned (.bool (Ru.full n x0 x1 x2)) /\ Below w.heap.size w w' := by
 have hb : b < w.heap.size := World.block_lt_of_cell? w _ hs0
 have hz0 : ((n : Int) == 0) = false := Ru.eq_f (by omega)
 have hc0 := hT.1 x0 (by omega)
 obtain ⟨_, k1, k2, k3⟩ := Ru.firstT_some (Ru.need_of (x := x0) (by omega))
 rw [hX] at hc0 k1 k2 k3
 have k4 : ¬ x0 < 128 := fun h => by have := Ru.firstT_ascii h; omega
 have ha0 := (hT.2 3 (by omega)).1
 have ha1 := (hT.2 3 (by omega)).2
 simp only [accLo, accHi, Nat.reduceMul, Nat.reduceAdd, Nat.reduceEqDiff, if_true, if_false, Nat.reduceMod, Nat.reduceDiv] at ha0 ha1 k1 k2 k3
 have HX : Hid ((Ru.need (x0 : Int) = 4 /\ Ru.lo2 (x0 : Int) = 144 /\ Ru.hi2 (x0 : Int) = 191) /\ ¬ x0 < 128) := ⟨⟨by omega, by omega, by omega⟩, k4⟩
 clear hX hT k1 k2 k3 k4
 by_cases hsz : 4 <= n
 ·clear hq1 hq2
  go_enter Tryz.func190, Tryz.ntmps190
  go_wp2
  go_ret
  exact ⟨ret_bool (Ru.full_t (by have := HX.out; omega)).symm, Below.refl _ _⟩
 ·rcases (show n = 1 ∨ n = 2 ∨ n = 3 by omega) with rfl | rfl | rfl
  ·clear hq1 hq2
   go_enter Tryz.func190, Tryz.ntmps190
   go_wp2
   go_quiet (fail)
   go_wp2
   go_ret
   exact ⟨ret_bool (Ru.full_f (by have := HX.out; omega)).symm, full_end _ _ _⟩
  ·have hs1 := hq1 (by omega)
   clear hq1 hq2
   by_cases b1 : (x1 : Int) < 144
   ·go_enter Tryz.func190, Tryz.ntmps190
    go_wp2
    go_quiet (fail)
    go_wp2
    go_ret
    exact ⟨ret_bool (Ru.full_t (by have := HX.out; omega)).symm, full_end _ _ _⟩
   ·by_cases b2 : (191 : Int) < x1
    ·go_enter Tryz.func190, Tryz.ntmps190
     go_wp2
     go_quiet (fail)
     go_wp2
     go_ret
     exact ⟨ret_bool (Ru.full_t (by have := HX.out; omega)).symm, full_end _ _ _⟩
    ·go_enter Tryz.func190, Tryz.ntmps190
     go_wp2
     go_quiet (fail)
     go_wp2
     go_ret
     exact ⟨ret_bool (Ru.full_f (by have := HX.out; omega)).symm, full_end _ _ _⟩
  ·have hs1 := hq1 (by omega)
   have hs2 := hq2 (by omega)
   clear hq1 hq2
   by_cases b1 : (x1 : Int) < 144
   ·go_enter Tryz.func190, Tryz.ntmps190
    go_wp2
    go_quiet (fail)
    go_wp2
    go_ret
    exact ⟨ret_bool (Ru.full_t (by have := HX.out; omega)).symm, full_end _ _ _⟩
   ·by_cases b2 : (191 : Int) < x1
    ·go_enter Tryz.func190, Tryz.ntmps190
     go_wp2
     go_quiet (fail)
     go_wp2
     go_ret
     exact ⟨ret_bool (Ru.full_t (by have := HX.out; omega)).symm, full_end _ _ _⟩
    ·by_cases c1 : (x2 : Int) < 128
     ·go_enter Tryz.func190, Tryz.ntmps190
      go_wp2
      go_quiet (fail)
      go_wp2
      go_ret
      exact ⟨ret_bool (Ru.full_t (by have := HX.out; omega)).symm, full_end _ _ _⟩
     ·by_cases c2 : (191 : Int) < x2
      ·go_enter Tryz.func190, Tryz.ntmps190
       go_wp2
       go_quiet (fail)
       go_wp2
       go_ret
       exact ⟨ret_bool (Ru.full_t (by have := HX.out; omega)).symm, full_end _ _ _⟩
      ·go_enter Tryz.func190, Tryz.ntmps190
       go_wp2
       go_quiet (fail)
       go_wp2
       go_ret
       exact ⟨ret_bool (Ru.full_f (by have := HX.out; omega)).symm, full_end _ _ _⟩
end Go.Proofs.YtllmjggejbdpcaaGreatDoor
