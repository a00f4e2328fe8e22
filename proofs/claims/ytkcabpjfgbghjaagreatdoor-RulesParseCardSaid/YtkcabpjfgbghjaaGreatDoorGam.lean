/-
  The walk of nest's Trim.
-/
import Derived.Test.YtkcabpjfgbghjaaGreatDoorGal
import Derived.Deep.Cut
import Derived.Deep.CutRange
import Derived.Deep.DeepCutAuto
import Derived.LoopTactic
import Derived.IntWalk
import Derived.Test.YtkcabpjfgbghjaaGreatDoorGaj
import Derived.Deep.RegionHeld3
import Derived.Deep.QuietTactic
import Derived.BigQuiet
import Derived.Test.YtkcabpjfgbghjaaGreatDoorGad
import Derived.Test.YtkcabpjfgbghjaaGreatDoorGag
import Derived.Test.YtkcabpjfgbghjaaGreatDoorGae
import Derived.Test.YtkcabpjfgbghjaaGreatDoorGak
set_option maxHeartbeats 16000000
set_option maxRecDepth 100000
namespace Go.Proofs.YtkcabpjfgbghjaaGreatDoor
open Go.RowKit
theorem ntrim_some (ts : List Tk.Tok) (hm : ts.length <= 65536) (bb off : Nat) (ca : Nat) (fr tz : Nat) (hft : fr <= tz) (hto : tz <= ts.length) (w : World) (h : ∀ j, j < ts.length -> w.cell? ⟨bb, off + j * 3, none⟩ = some (.int .i64 (Tk.tk ts j).1)) :
 Calls Tryz.prog 103 #[.slice (some ⟨bb, off, none⟩) ts.length ca, .int .i64 fr, .int .i64 tz] w (Tw (Ns.trA ts tz fr) (Ns.trB ts (Ns.trA ts tz fr) tz) w) := by
 have HP := Lib.hid h
 clear h
 have CI : Hid (∀ W, Calls Tryz.prog 164 #[.slice (some ⟨bb, off, none⟩) ts.length ca, .int .i64 fr, .int .i64 tz] W fun e w' => e = .returned (.bool true) /\ W = w') := Lib.hid fun W => by
  have := nwithin_any ts (some ⟨bb, off, none⟩) ca fr tz W
  rwa [show decide (Ns.okp ts fr tz) = true from decide_eq_true ⟨by omega, by omega, by omega⟩] at this
 go_enter Tryz.func103, Tryz.ntmps103
 go_wp2_with (go_at_call 164; ((with_reducible refine (CI.out _).mono ?_); rintro e w1 ⟨rfl, rfl⟩))
 go_loopw [1] (fun v1 wr => ∃ a : Nat, v1 = .int .i64 a /\ a <= tz /\ Hid (Ns.trA ts tz fr = Ns.trA ts tz a) /\ wr = w) (fun v1 _ => tz - (RowKit.intOf v1).toNat)
 case atStart => exact ⟨fr, rfl, hft, Lib.hid rfl, rfl⟩
 case round =>
  obtain ⟨a, rfl, ha, HT, rfl⟩ := hrel
  by_cases hlt : a < tz
  ·have p0 := HP.out a (by omega)
   have hat : a < ts.length := by omega
   by_cases hk : (Tk.tk ts a).1 = 1
   ·have HV : Hid (Ns.trA ts tz fr = Ns.trA ts tz (a + 1)) := Lib.hid (by rw [HT.out, Ns.trA_on ⟨hlt, hk⟩])
    rw [hk] at p0
    clear hk HT
    go_wp2_with fail
    go_roundw
    case rel => exact ⟨a + 1, by go_num, by omega, HV, trivial⟩
    case measure => simp [RowKit.intOf]; omega
   ·have HE : Hid (Ns.trA ts tz fr = a) := Lib.hid (by rw [HT.out, Ns.trA_end (fun c => hk c.2)])
    have hkb : ((Tk.tk ts a).1 == 1) = false := beq_false_of_ne hk
    clear hk HT
    generalize (Tk.tk ts a).1 = ka at *
    go_wp2_with fail
    clear p0 hkb
    go_loopw [2] (fun v2 wi => ∃ b : Nat, v2 = .int .i64 b /\ b <= tz /\ Hid (Ns.trB ts a tz = Ns.trB ts a b) /\ wi = wr) (fun v2 _ => (RowKit.intOf v2).toNat)
    case atStart => exact ⟨tz, rfl, Nat.le_refl _, Lib.hid rfl, rfl⟩
    case round =>
     obtain ⟨b, rfl, hb, HU, rfl⟩ := hrel
     by_cases hab : a < b
     ·obtain ⟨m, rfl⟩ : ∃ m, b = m + 1 := ⟨b - 1, by omega⟩
      have p1 := HP.out m (by omega)
      have hbt : m < ts.length := by omega
      by_cases hk1 : (Tk.tk ts m).1 = 1
      ·have HV : Hid (Ns.trB ts a tz = Ns.trB ts a m) := Lib.hid (by rw [HU.out, Ns.trB_on ⟨by omega, hk1⟩])
       rw [hk1] at p1
       clear hk1 HU
       go_wp2_with fail
       go_roundw
       case rel => exact ⟨m, by first | rfl | go_num, by omega, HV, trivial⟩
       case measure => simp [RowKit.intOf]; try omega
      ·have HV : Hid (Ns.trB ts a tz = m + 1) := Lib.hid (by rw [HU.out, Ns.trB_end (fun c => hk1 c.2)])
       have hkb : ((Tk.tk ts m).1 == 1) = false := beq_false_of_ne hk1
       clear hk1 HU
       generalize (Tk.tk ts m).1 = kb at *
       go_wp2_with fail
       go_ret2
       exact ⟨by rw [HE.out, HV.out]; try rfl, Below.refl _ _⟩
     ·have HV : Hid (Ns.trB ts a tz = b) := Lib.hid (by rw [HU.out, Ns.trB_low (by omega)])
      clear HU
      go_wp2_with fail
      go_ret2
      exact ⟨by rw [HE.out, HV.out]; try rfl, Below.refl _ _⟩
  ·have HE : Hid (Ns.trA ts tz fr = a) := Lib.hid (by rw [HT.out, Ns.trA_end (fun c => hlt c.1)])
   clear HT
   go_wp2_with fail
   go_loopw [2] (fun v2 wi => ∃ b : Nat, v2 = .int .i64 b /\ b <= tz /\ Hid (Ns.trB ts a tz = Ns.trB ts a b) /\ wi = wr) (fun v2 _ => (RowKit.intOf v2).toNat)
   case atStart => exact ⟨tz, rfl, Nat.le_refl _, Lib.hid rfl, rfl⟩
   case round =>
    obtain ⟨b, rfl, hb, HU, rfl⟩ := hrel
    by_cases hab : a < b
    ·omega
    ·have HV : Hid (Ns.trB ts a tz = b) := Lib.hid (by rw [HU.out, Ns.trB_low (by omega)])
     clear HU
     go_wp2_with fail
     go_ret2
     exact ⟨by rw [HE.out, HV.out]; try rfl, Below.refl _ _⟩
theorem ntrim_nil (A : Option Addr) (ca : Nat) (w : World) :
 Calls Tryz.prog 103 #[.slice A 0 ca, .int .i64 0, .int .i64 0] w (Tw 0 0 w) := by
 have CI : Hid (∀ W, Calls Tryz.prog 164 #[.slice A 0 ca, .int .i64 0, .int .i64 0] W fun e w' => e = .returned (.bool true) /\ W = w') := Lib.hid fun W => nwithin_any [] A ca 0 0 W
 go_enter Tryz.func103, Tryz.ntmps103
 go_wp2_with (go_at_call 164; ((with_reducible refine (CI.out _).mono ?_); rintro e w1 ⟨rfl, rfl⟩))
 go_loopw [1] (fun v1 wr => v1 = .int .i64 0 /\ wr = w) (fun _ _ => 0)
 case atStart => exact ⟨rfl, rfl⟩
 case round =>
  obtain ⟨rfl, rfl⟩ := hrel
  go_wp2_with fail
  go_loopw [2] (fun v2 wi => v2 = .int .i64 0 /\ wi = wr) (fun _ _ => 0)
  case atStart => exact ⟨rfl, rfl⟩
  case round =>
   obtain ⟨rfl, rfl⟩ := hrel
   go_wp2_with fail
   go_ret2
   exact ⟨rfl, Below.refl _ _⟩
theorem ntrim_any (ts : List Tk.Tok) (hm : ts.length <= 65536) (A : Option Addr) (ca : Nat) (fr tz : Nat) (hft : fr <= tz) (hto : tz <= ts.length) (w : World) (h : Ts w w.heap.size A ts) :
 Calls Tryz.prog 103 #[.slice A ts.length ca, .int .i64 fr, .int .i64 tz] w (Tw (Ns.trA ts tz fr) (Ns.trB ts (Ns.trA ts tz fr) tz) w) := by
 by_cases h0 : 0 < ts.length
 ·obtain ⟨bb, off, rfl, _, hp⟩ := h h0
  exact ntrim_some ts hm bb off ca fr tz hft hto w fun j hj => (hp j hj).1
 ·obtain rfl : tz = 0 := by omega
  obtain rfl : fr = 0 := by omega
  have e : ts.length = 0 := by omega
  rw [e, Ns.trA_end (fun c => by omega)]
  exact ntrim_nil A ca w
theorem send_any (ts : List Tk.Tok) (hm : ts.length <= 20000) (A C : Option Addr) (ca cc : Nat) (x y : Nat) (hxy : x < y) (hy : y <= ts.length) (w : World) (h : Sh ts A ca C w) :
 Calls Tryz.prog 54 #[shV A ts.length ca C (Ns.ends ts).length cc, .int .i64 x, .int .i64 y] w (Nu (Ns.fnd (fun i => Rl.stB (decide ((Tk.tk ts x).1 = 4)) (Tk.tk ts i)) (Ns.plc (Ns.ends ts) y x)) w) := by
 obtain ⟨W0, hW⟩ : ∃ W0, W0 = w.alloc (.cells #[.slice A ts.length ca, .slice C (Ns.ends ts).length cc] 58) := ⟨_, rfl⟩
 have hb0 : Below w.heap.size w W0 := by rw [hW]; exact (Below.refl _ _).alloc (Nat.le_refl _) _
 have k0 : W0.heap[w.heap.size]? = some (.cells #[.slice A ts.length ca, .slice C (Ns.ends ts).length cc] 58 (0, 0)) := by rw [hW]; exact heap_alloc_new w _
 obtain ⟨p0, p1⟩ := sh_cells k0
 have hs0 : w.heap.size < W0.heap.size := by rw [hW]; simp
 have CF : Hid (∀ W bk, bk < W.heap.size -> W.cell? ⟨bk, 0, none⟩ = some (.int .i64 (Tk.tk ts x).1) -> Below W0.heap.size W0 W -> Calls Tryz.prog 99 #[.slice A ts.length ca, .slice C (Ns.ends ts).length cc, .int .i64 x, .int .i64 y, endV bk] W (Nu (Ns.fnd (fun i => Rl.stB (decide ((Tk.tk ts x).1 = 4)) (Tk.tk ts i)) (Ns.plc (Ns.ends ts) y x)) W)) :=
  Lib.hid fun W bk hl hk hb => FindE_any ts hm A C ca cc x y (Nat.le_of_lt hxy) hy (Tk.tk ts x).1 bk W hl hk (((h.next hb0).next hb).hts) (((h.next hb0).next hb).hes)
 have CE : Hid (∀ W, Calls Tryz.prog 80 #[.int .i64 (Tk.tk ts x).1] W fun e w' => e = .returned (endV W.heap.size) /\ W.heap.size < w'.heap.size /\ w'.cell? ⟨W.heap.size, 0, none⟩ = some (.int .i64 (Tk.tk ts x).1) /\ Below W.heap.size W w') := Lib.hid fun W => ending_any _ W
 obtain ⟨b, off, rfl, hb, hc⟩ := (h.next hb0).hts (by omega)
 obtain ⟨q0, q1, q2⟩ := hc x (by omega)
 have HB0 := Lib.hid hb0
 have HW := Lib.hid hW.symm
 have hxl : (x : Int) < (ts.length : Int) := by omega
 clear hb0 k0 hW h hc
 generalize Ns.fnd (fun i => Rl.stB (decide ((Tk.tk ts x).1 = 4)) (Tk.tk ts i)) (Ns.plc (Ns.ends ts) y x) = n at *
 generalize Tk.tk ts x = u at *
 unfold shV
 go_enter Tryz.func54, Tryz.ntmps54
 go_upto_region 1 with fail
 rw [HW.out]
 clear HW
 go_region_held3 (fun w' => w'.cell? ⟨w.heap.size, 0, none⟩ = some (.slice (some ⟨b, off, none⟩) ts.length ca) /\ w'.cell? ⟨w.heap.size, 1, none⟩ = some (.slice C (Ns.ends ts).length cc) /\ w'.cell? ⟨b, off + x * 3, none⟩ = some (.int .i64 u.1))
  (first | go_keep | (go_split_ands; exact ⟨(hb1.cell (p := ⟨w.heap.size, 0, none⟩) hs0).trans (by assumption), (hb1.cell (p := ⟨w.heap.size, 1, none⟩) hs0).trans (by assumption), (hb1.cell (p := ⟨b, off + x * 3, none⟩) hb).trans (by assumption)⟩))
  (first | (go_at_call 80; refine (CE.out _).mono ?_; rintro e w1 ⟨rfl, z1, c1, b1⟩; have hb1 : Below W0.heap.size W0 w1 := (Below.refl W0.heap.size W0).drew.trans b1; have HB1 := Lib.hid hb1; have z2 : W0.heap.size < w1.heap.size := z1; have c2 : w1.cell? ⟨W0.heap.size, 0, none⟩ = some (.int .i64 u.1) := c1; clear z1 c1 b1) | (go_at_call 99; refine (CF.out _ _ z2 c2 HB1.out).mono ?_; rintro e w2 ⟨rfl, b2⟩; have hb1 : Below W0.heap.size W0 w2 := HB1.out.trans (b2.mono HB1.out.size); have HB2 := Lib.hid (below_next HB0.out hb1); clear b2))
 go_wp2_with fail
 go_ret
 exact ⟨rfl, HB2.out⟩
theorem ssemi_any (ts : List Tk.Tok) (hm : ts.length <= 20000) (A C : Option Addr) (ca cc : Nat) (x y : Nat) (hxy : x <= y) (hy : y <= ts.length) (w : World) (h : Sh ts A ca C w) :
 Calls Tryz.prog 169 #[shV A ts.length ca C (Ns.ends ts).length cc, .int .i64 x, .int .i64 y] w (Nu (Rl.fo Rl.seB ts x y : Nat) w) := by
 obtain ⟨W0, hW⟩ : ∃ W0, W0 = w.alloc (.cells #[.slice A ts.length ca, .slice C (Ns.ends ts).length cc] 58) := ⟨_, rfl⟩
 have hb0 : Below w.heap.size w W0 := by rw [hW]; exact (Below.refl _ _).alloc (Nat.le_refl _) _
 have k0 : W0.heap[w.heap.size]? = some (.cells #[.slice A ts.length ca, .slice C (Ns.ends ts).length cc] 58 (0, 0)) := by rw [hW]; exact heap_alloc_new w _
 obtain ⟨p0, p1⟩ := sh_cells k0
 have CF := Lib.hid (FindS_any ts hm A C ca cc x y hxy hy W0 (h.next hb0).hts (h.next hb0).hes)
 have HF : Hid (Rl.fo Rl.seB ts x y = if Ns.fnd (fun i => Rl.seB (Tk.tk ts i)) (Ns.plc (Ns.ends ts) y x) = -1 then y else (Ns.fnd (fun i => Rl.seB (Tk.tk ts i)) (Ns.plc (Ns.ends ts) y x)).toNat) := Lib.hid rfl
 have hra := Rl.fnd_range (fun i => Rl.seB (Tk.tk ts i)) (Ns.plc (Ns.ends ts) y x)
 have HB0 := Lib.hid hb0
 have HW := Lib.hid hW.symm
 clear hb0 k0 hW h
 generalize Ns.fnd (fun i => Rl.seB (Tk.tk ts i)) (Ns.plc (Ns.ends ts) y x) = n at *
 generalize Rl.fo Rl.seB ts x y = r at *
 unfold shV
 by_cases hn : n < 0
 ·have HR : Hid (r = y) := Lib.hid (by rw [HF.out, if_pos (by omega)])
  have d1 : decide (n < 0) = true := decide_eq_true hn
  clear HF hra
  go_enter Tryz.func169, Tryz.ntmps169
  go_upto_region 1 with fail
  rw [HW.out]
  clear HW
  go_wp2_with (go_at_call 99; ((with_reducible refine (CF.out).mono ?_); rintro e w1 ⟨rfl, b1⟩; have HB1 := Lib.hid (below_next HB0.out b1); clear b1))
  go_ret
  exact ⟨by rw [HR.out]; rfl, HB1.out⟩
 ·have HR : Hid ((r : Int) = n) := Lib.hid (by rw [HF.out, if_neg (by omega)]; omega)
  have d1 : decide (n < 0) = false := decide_eq_false hn
  clear HF hra
  go_enter Tryz.func169, Tryz.ntmps169
  go_upto_region 1 with fail
  rw [HW.out]
  clear HW
  go_wp2_with (go_at_call 99; ((with_reducible refine (CF.out).mono ?_); rintro e w1 ⟨rfl, b1⟩; have HB1 := Lib.hid (below_next HB0.out b1); clear b1))
  go_ret
  exact ⟨by rw [HR.out]; rfl, HB1.out⟩
theorem bang_test (t : ByteArray) : (t.toList == [33]) = decide (t = ⟨#[33]⟩) := str_test t 33
theorem imp_test (t : ByteArray) : (t.toList == [105, 109, 112, 111, 114, 116, 97, 110, 116]) = decide (t = Rl.impS) := by
 rw [<- str_same, show Rl.impS.toList = [105, 109, 112, 111, 114, 116, 97, 110, 116] from by unfold Rl.impS; rw [Lib.toList_data]]
theorem marking_any (v : List Tk.Tok) (hF : Pr.FairB v) (hE : Rl.Edge v) (A : Option Addr) (ca : Nat) (w : World) (h : Ts w w.heap.size A v) :
 Calls Tryz.prog 143 #[.slice A v.length ca] w (Nu (Rl.mrk v) w) := by
 have hm := hF.1
 by_cases h2 : 2 <= v.length
 ·obtain ⟨bb, off, rfl, hbb, hp⟩ := h (by omega)
  have HI := Lib.hid (Rl.imp_iff hE h2)
  have HMY : Hid (Rl.Imp v -> Rl.mrk v = (Ns.trB v 0 (v.length - 1) : Int) - 1) := Lib.hid fun h => by unfold Rl.mrk; rw [if_pos h]
  have HMN : Hid (¬ Rl.Imp v -> Rl.mrk v = -1) := Lib.hid fun h => by unfold Rl.mrk; rw [if_neg h]
  obtain ⟨_, hB0, hB1⟩ := Rl.ahead_is hE h2
  have CT : Hid (∀ W, Below w.heap.size w W -> Calls Tryz.prog 103 #[.slice (some ⟨bb, off, none⟩) v.length ca, .int .i64 0, .int .i64 ((v.length : Int) - 1)] W (Tw 0 (Ns.trB v 0 (v.length - 1) : Nat) W)) := Lib.hid fun W hb => by
   have := ntrim_any v (by omega) (some ⟨bb, off, none⟩) ca 0 (v.length - 1) (Nat.zero_le _) (by omega) W (h.next hb)
   rw [Rl.trA_0 (Rl.edge_0 hE (by omega))] at this
   rwa [show ((v.length - 1 : Nat) : Int) = (v.length : Int) - 1 by omega] at this
  have hz := tk_size hF (a := v.length - 1) (by omega)
  have CL : Hid (∀ W, Calls Tryz.prog 43 #[.string (Tk.tk v (v.length - 1)).2.1] W (Sg (Ru.lowS (Tk.tk v (v.length - 1)).2.1) W)) := Lib.hid fun W => lower_any _ W hz
  obtain ⟨p0, p1, _⟩ := hp (v.length - 1) (by omega)
  obtain ⟨B, hBe⟩ : ∃ B, Ns.trB v 0 (v.length - 1) = B + 1 := ⟨Ns.trB v 0 (v.length - 1) - 1, by omega⟩
  rw [hBe] at hB0 hB1 CT
  rw [hBe, Nat.add_sub_cancel] at HI
  rw [hBe] at HMY
  obtain ⟨q0, q1, _⟩ := hp B (by omega)
  have ht := imp_test (Ru.lowS (Tk.tk v (v.length - 1)).2.1)
  have hbt := bang_test (Tk.tk v B).2.1
  have hsub : IntKind.i64.wrap ((v.length : Int) - 1) = (v.length : Int) - 1 := IntWalk.i64_in _ (by omega)
  have hsn : ((v.length : Int) - 1).toNat = v.length - 1 := by omega
  have hsb : (0 : Int) <= (v.length : Int) - 1 := by omega
  have hsl : (v.length : Int) - 1 < (v.length : Int) := by omega
  have d1 : decide ((v.length : Int) - 1 < 1) = false := decide_eq_false (by omega)
  have hBl : (B : Int) < (v.length : Int) := by omega
  clear hp h hE hF hz
  by_cases k2 : (Tk.tk v (v.length - 1)).1 = 2
  ·rw [k2] at p0
   by_cases kt : Ru.lowS (Tk.tk v (v.length - 1)).2.1 = Rl.impS
   ·rw [decide_eq_true kt] at ht
    by_cases k3 : (Tk.tk v B).1 = 11
    ·rw [k3] at q0
     by_cases k4 : (Tk.tk v B).2.1 = ⟨#[33]⟩
     ·rw [decide_eq_true k4] at hbt
      have HV : Hid (Rl.mrk v = (B : Int)) := Lib.hid (by rw [HMY.out (HI.out.2 ⟨k2, kt, k3, k4⟩)]; omega)
      clear k2 kt k3 k4 HI HMY HMN hBe
      generalize Ru.lowS (Tk.tk v (v.length - 1)).2.1 = lo at *
      generalize (Tk.tk v (v.length - 1)).2.1 = t1 at *
      generalize (Tk.tk v B).2.1 = t2 at *
      go_enter Tryz.func143, Tryz.ntmps143
      go_wp2_with (first | (go_at_call 43; ((with_reducible refine (CL.out _).mono ?_); rintro e w1 ⟨rfl, b1⟩; have HB1 := Lib.hid b1; clear b1)) | (go_at_call 103; ((with_reducible refine (CT.out _ HB1.out).mono ?_); rintro e w2 ⟨rfl, b2⟩; have hb2 := below_next HB1.out b2; have HB2 := Lib.hid hb2; have r0 := (hb2.cell (p := ⟨bb, off + B * 3, none⟩) hbb).trans q0; have r1 := (hb2.cell (p := ⟨bb, off + B * 3 + 1, none⟩) hbb).trans q1; clear b2 hb2)))
      go_ret
      exact ⟨by rw [HV.out]; rfl, HB2.out⟩
     ·rw [decide_eq_false k4] at hbt
      have HV := Lib.hid (HMN.out (fun c => k4 (HI.out.1 c).2.2.2))
      clear k2 kt k3 k4 HI HMY HMN hBe
      generalize Ru.lowS (Tk.tk v (v.length - 1)).2.1 = lo at *
      generalize (Tk.tk v (v.length - 1)).2.1 = t1 at *
      generalize (Tk.tk v B).2.1 = t2 at *
      go_enter Tryz.func143, Tryz.ntmps143
      go_wp2_with (first | (go_at_call 43; ((with_reducible refine (CL.out _).mono ?_); rintro e w1 ⟨rfl, b1⟩; have HB1 := Lib.hid b1; clear b1)) | (go_at_call 103; ((with_reducible refine (CT.out _ HB1.out).mono ?_); rintro e w2 ⟨rfl, b2⟩; have hb2 := below_next HB1.out b2; have HB2 := Lib.hid hb2; have r0 := (hb2.cell (p := ⟨bb, off + B * 3, none⟩) hbb).trans q0; have r1 := (hb2.cell (p := ⟨bb, off + B * 3 + 1, none⟩) hbb).trans q1; clear b2 hb2)))
      go_ret
      exact ⟨by rw [HV.out]; rfl, HB2.out⟩
    ·have HV := Lib.hid (HMN.out (fun c => k3 (HI.out.1 c).2.2.1))
     have k3b : ((Tk.tk v B).1 != 11) = true := Ru.ne_t k3
     have k3e : ((Tk.tk v B).1 == 11) = false := beq_false_of_ne k3
     clear k2 kt k3 HI HMY HMN hBe hbt
     generalize Ru.lowS (Tk.tk v (v.length - 1)).2.1 = lo at *
     generalize (Tk.tk v (v.length - 1)).2.1 = t1 at *
     generalize (Tk.tk v B).1 = kd at *
     go_enter Tryz.func143, Tryz.ntmps143
     go_wp2_with (first | (go_at_call 43; ((with_reducible refine (CL.out _).mono ?_); rintro e w1 ⟨rfl, b1⟩; have HB1 := Lib.hid b1; clear b1)) | (go_at_call 103; ((with_reducible refine (CT.out _ HB1.out).mono ?_); rintro e w2 ⟨rfl, b2⟩; have hb2 := below_next HB1.out b2; have HB2 := Lib.hid hb2; have r0 := (hb2.cell (p := ⟨bb, off + B * 3, none⟩) hbb).trans q0; clear b2 hb2)))
     go_ret
     exact ⟨by rw [HV.out]; rfl, HB2.out⟩
   ·rw [decide_eq_false kt] at ht
    have HV := Lib.hid (HMN.out (fun c => kt (HI.out.1 c).2.1))
    clear k2 kt HI HMY HMN hBe hbt CT
    generalize Ru.lowS (Tk.tk v (v.length - 1)).2.1 = lo at *
    generalize (Tk.tk v (v.length - 1)).2.1 = t1 at *
    go_enter Tryz.func143, Tryz.ntmps143
    go_wp2_with (go_at_call 43; ((with_reducible refine (CL.out _).mono ?_); rintro e w1 ⟨rfl, b1⟩; have HB1 := Lib.hid b1; clear b1))
    go_ret
    exact ⟨by rw [HV.out]; rfl, HB1.out⟩
  ·have HV := Lib.hid (HMN.out (fun c => k2 (HI.out.1 c).1))
   have k2b : ((Tk.tk v (v.length - 1)).1 != 2) = true := Ru.ne_t k2
   have k2e : ((Tk.tk v (v.length - 1)).1 == 2) = false := beq_false_of_ne k2
   clear k2 HI HMY HMN hBe hbt ht CT CL
   generalize (Tk.tk v (v.length - 1)).1 = kd at *
   go_enter Tryz.func143, Tryz.ntmps143
   go_wp2_with fail
   go_ret
   exact ⟨by rw [HV.out]; rfl, Below.refl _ _⟩
 ·have HV : Hid (Rl.mrk v = -1) := Lib.hid (Rl.mrk_no (fun c => h2 (Rl.imp_two c))).1
  have hsub : IntKind.i64.wrap ((v.length : Int) - 1) = (v.length : Int) - 1 := IntWalk.i64_in _ (by omega)
  have d1 : decide ((v.length : Int) - 1 < 1) = true := decide_eq_true (by omega)
  clear h hF hE
  go_enter Tryz.func143, Tryz.ntmps143
  go_wp2_with fail
  go_ret
  exact ⟨by rw [HV.out]; rfl, Below.refl _ _⟩
def SdK (sd : List Tk.Tok -> Bool) : Prop := ∀ (v : List Tk.Tok), Pr.FairB v -> Pr.Wf v -> ∀ (A : Option Addr) (cap : Nat) (W : World), v.length <= cap -> Ts W W.heap.size A v -> PTab W.heap.size W -> Calls Tryz.prog 20 #[.slice A v.length cap] W (Bo (sd v) W)
namespace Rl
open Tk Ns
theorem rear_cons {t : Tok} (l : List Tok) (h : sp t = false) : rear (t :: l) = t :: rear l := by
 unfold rear
 rw [List.reverse_cons, List.dropWhile_append]
 have e : List.dropWhile sp [t] = [t] := by rw [List.dropWhile_cons, h]; rfl
 rw [e]
 generalize l.reverse.dropWhile sp = d
 cases d with
 | nil => rfl
 | cons x d => simp
theorem lead_spaces : ∀ {A : List Tok} (l : List Tok), (∀ x ∈ A, sp x = true) -> lead (A ++ l) = lead l
 | [], l, _ => rfl
 | x :: A, l, h => by
   rw [List.cons_append, lead_cons, if_pos (h x (by simp))]
   exact lead_spaces l fun y hy => h y (List.mem_cons_of_mem _ hy)
theorem rear_spaces {B : List Tok} (l : List Tok) (h : ∀ x ∈ B, sp x = true) : rear (l ++ B) = rear l := by
 have h2 : ∀ x ∈ B.reverse, sp x = true := fun x hx => h x (List.mem_reverse.1 hx)
 have := lead_spaces (A := B.reverse) l.reverse h2
 unfold lead at this
 unfold rear
 rw [List.reverse_append, this]
theorem rear_all {A : List Tok} (h : ∀ x ∈ A, sp x = true) : rear A = [] := by
 have := rear_spaces (B := A) [] h
 rwa [List.nil_append, rear_nil] at this
theorem lead_rear (r : List Tok) : lead (rear r) = trim r := by
 obtain ⟨A, B, e, hA, hB⟩ := trim_part r
 have hE := trim_edge r
 generalize trim r = T at *
 rw [e, rear_spaces _ hB]
 cases hT : T with
 | nil => rw [List.append_nil, rear_all hA, lead_nil]
 | cons t q =>
   have h1 : rear (A ++ t :: q) = A ++ t :: q := rear_id (fun x hx => by
    rw [List.getLast?_append] at hx
    have hq : (t :: q).getLast? = some ((t :: q).getLast (by simp)) := List.getLast?_eq_some_getLast (by simp)
    rw [hq] at hx
    refine hE.2 x ?_
    rw [hT, hq]
    simpa using hx)
   rw [h1, lead_spaces _ hA, <- hT]
   exact lead_id hE.1
theorem trim_rear (r : List Tok) : trim (rear r) = trim r := by
 unfold trim
 rw [lead_rear]
 exact rear_id (fun x hx => (trim_edge r).2 x hx)
theorem trA_stop {ts : List Tok} {b : Nat} : ∀ (m a : Nat), b - a <= m -> trA ts b a < b -> (tk ts (trA ts b a)).1 ≠ 1
 | m, a, hm, h => by
   by_cases c : a < b /\ (tk ts a).1 = 1
   ·rw [trA_on c] at h ⊢
    match m, hm with
    | 0, hm => omega
    | m + 1, hm => exact trA_stop m (a + 1) (by omega) h
   ·rw [trA_end c] at h ⊢
    exact fun e => c ⟨h, e⟩
theorem declL_at {sd : List Tok -> Bool} {ts : List Tok} {a b : Nat} (hab : a < b) (hb : b <= ts.length) (h1 : (tk ts a).1 ≠ 1) :
 declL sd (sub ts a b) = if (tk ts a).1 = 2 /\ trA ts b (a + 1) < b /\ (tk ts (trA ts b (a + 1))).1 = 14 then
  (if sd (value (trim (sub ts (trA ts b (a + 1) + 1) b))).1 = true then some (Ru.lowS (tk ts a).2.1, (value (trim (sub ts (trA ts b (a + 1) + 1) b))).1, (value (trim (sub ts (trA ts b (a + 1) + 1) b))).2) else none) else none := by
 have hs : sp (tk ts a) = false := decide_eq_false h1
 have e1 : trim (sub ts a b) = tk ts a :: rear (sub ts (a + 1) b) := by
  unfold trim
  rw [sub_cons hab hb, lead_cons, if_neg (by rw [hs]; decide), rear_cons _ hs]
 have e2 : lead (rear (sub ts (a + 1) b)) = rear (sub ts (trA ts b (a + 1)) b) := by
  rw [lead_rear, trim, lead_sub hb _ (a + 1) (Nat.le_refl _) (by omega)]
 have hbd := trA_bd ts (b := b) _ (a + 1) (Nat.le_refl _) (by omega)
 have hst := trA_stop (ts := ts) (b := b) _ (a + 1) (Nat.le_refl _)
 unfold declL
 rw [e1, declN, e2]
 generalize trA ts b (a + 1) = x at *
 by_cases h2 : (tk ts a).1 = 2
 ·rw [if_pos h2]
  by_cases hx : x < b
  ·have hsx : sp (tk ts x) = false := decide_eq_false (hst hx)
   rw [sub_cons hx hb, rear_cons _ hsx, declV, trim_rear]
   by_cases h14 : (tk ts x).1 = 14
   ·have hc : (tk ts a).1 = 2 /\ x < b /\ (tk ts x).1 = 14 := ⟨h2, hx, h14⟩
    rw [if_pos hc]
    by_cases hsd : sd (value (trim (sub ts (x + 1) b))).1 = true
    ·have hn : (tk ts x).1 = 14 /\ sd (value (trim (sub ts (x + 1) b))).1 = true := ⟨h14, hsd⟩
     rw [if_pos hn, if_pos hsd]
    ·have hn : ¬ ((tk ts x).1 = 14 /\ sd (value (trim (sub ts (x + 1) b))).1 = true) := fun c => hsd c.2
     rw [if_neg hn, if_neg hsd]
   ·have hn : ¬ ((tk ts x).1 = 14 /\ sd (value (trim (sub ts (x + 1) b))).1 = true) := fun c => h14 c.1
    have hn2 : ¬ ((tk ts a).1 = 2 /\ x < b /\ (tk ts x).1 = 14) := fun c => h14 c.2.2
    rw [if_neg hn, if_neg hn2]
  ·rw [sub_low (by omega), rear_nil, declV, if_neg (fun c => hx c.2.1)]
 ·rw [if_neg h2, if_neg (fun c => h2 c.1)]
end Rl
theorem set3_belowK {w w1 : World} {k : Nat} (h : Below w.heap.size w w1) (hk : w.heap.size <= k) (x y z : Value) : Below w.heap.size w (((w1.setCell ⟨k, 0, none⟩ x).setCell ⟨k, 1, none⟩ y).setCell ⟨k, 2, none⟩ z) :=
 ((h.setCell hk _).setCell hk _).setCell hk _
theorem two_new (w : World) (o p : Obj) : Below w.heap.size w ((w.alloc o).alloc p) /\ ((w.alloc o).alloc p).heap[w.heap.size]? = some o /\ ((w.alloc o).alloc p).heap[w.heap.size + 1]? = some p /\ w.heap.size + 1 < ((w.alloc o).alloc p).heap.size := by
 have hs : (w.alloc o).heap.size = w.heap.size + 1 := by simp
 have h1 := (Below.refl (w.alloc o).heap.size (w.alloc o)).alloc (Nat.le_refl _) p
 refine ⟨((Below.refl _ _).alloc (Nat.le_refl _) o).alloc (by simp) p, below_block h1 (heap_alloc_new w o), ?_, by simp⟩
 rw [<- hs]; exact heap_alloc_new _ p
theorem wf_sub {ts : List Tk.Tok} (h : Pr.Wf ts) {us : List Tk.Tok} (hs : ∀ t ∈ us, t ∈ ts) : Pr.Wf us := fun j hj => by
 have h1 := hs _ (List.getElem_mem hj)
 obtain ⟨i, hi, e⟩ := List.mem_iff_getElem.1 h1
 have := h i hi
 rw [Tk.tk_eq hi, e] at this
 rw [Tk.tk_eq hj]; exact this
theorem fair_sub {ts : List Tk.Tok} (h : Pr.FairB ts) {us : List Tk.Tok} (hl : us.length <= ts.length) (hs : ∀ t ∈ us, t ∈ ts) : Pr.FairB us := ⟨Nat.le_trans hl h.1, fun j hj => by
 have h1 := hs _ (List.getElem_mem hj)
 obtain ⟨i, hi, e⟩ := List.mem_iff_getElem.1 h1
 have := h.2 i hi
 rw [Tk.tk_eq hi, e] at this
 rw [Tk.tk_eq hj]; exact this⟩
theorem sub_le {ts : List Tk.Tok} {x y : Nat} : (Rl.sub ts x y).length <= ts.length := by
 unfold Rl.sub
 rw [List.length_drop, List.length_take]; omega
theorem sdecl_any (sd : List Tk.Tok -> Bool) (hsd : SdK sd) (ts : List Tk.Tok) (hF : Pr.FairB ts) (hwf : Pr.Wf ts) (A C : Option Addr) (ca cc : Nat) (x y : Nat) (hxy : x < y) (hy : y <= ts.length) (h1 : (Tk.tk ts x).1 ≠ 1) (w : World) (h : Sh ts A ca C w) (hT : PTab w.heap.size w) :
 Calls Tryz.prog 170 #[shV A ts.length ca C (Ns.ends ts).length cc, .int .i64 x, .int .i64 y] w (ToldD (Rl.declL sd (Rl.sub ts x y)) w) := by
 have HV := Lib.hid (Rl.declL_at (sd := sd) hxy hy h1)
 generalize Rl.declL sd (Rl.sub ts x y) = res at *
 obtain ⟨W0, hW⟩ : ∃ W0, W0 = (w.alloc (.cells #[.slice A ts.length ca, .slice C (Ns.ends ts).length cc] 58)).alloc zeroDecl := ⟨_, rfl⟩
 obtain ⟨hb0, k0, k1, hs1⟩ := two_new w (.cells #[.slice A ts.length ca, .slice C (Ns.ends ts).length cc] 58) zeroDecl
 rw [<- hW] at hb0 k0 k1 hs1
 obtain ⟨p0, p1⟩ := sh_cells k0
 have hs0 : w.heap.size < W0.heap.size := by omega
 have HB0 := Lib.hid hb0
 have HK0 := Lib.hid k1
 have HW := Lib.hid hW.symm
 have HS := Lib.hid (h.next hb0)
 have HT := Lib.hid (hT.next hb0)
 have hm := hF.1
 have htb := Rl.trA_bd ts (b := y) (y - (x + 1)) (x + 1) (Nat.le_refl _) (by omega)
 have CT : Hid (∀ W, Below W0.heap.size W0 W -> Calls Tryz.prog 103 #[.slice A ts.length ca, .int .i64 ((x : Int) + 1), .int .i64 y] W (Tw (Ns.trA ts y (x + 1)) (Ns.trB ts (Ns.trA ts y (x + 1)) y) W)) := Lib.hid fun W hb => by
  have := ntrim_any ts (by omega) A ca (x + 1) y (by omega) hy W (HS.out.next hb).hts
  rwa [show ((x + 1 : Nat) : Int) = (x : Int) + 1 by omega] at this
 obtain ⟨b, off, rfl, hbb, hp⟩ := HS.out.hts (by omega)
 obtain ⟨q0, q1, _⟩ := hp x (by omega)
 have HP := Lib.hid hp
 have hxl : (x : Int) < (ts.length : Int) := by omega
 clear hb0 k0 k1 hW h hT h1 hp
 unfold shV
 generalize hav : Ns.trB ts (Ns.trA ts y (x + 1)) y = a2 at CT
 clear hav
 generalize Ns.trA ts y (x + 1) = a at *
 by_cases h2 : (Tk.tk ts x).1 = 2
 ·by_cases ha : a < y
  ·have hal : a < ts.length := by omega
   have hali : (a : Int) < (ts.length : Int) := by omega
   have hane : ((a : Int) == (y : Int)) = false := beq_false_of_ne (by omega)
   have hane2 : (a == y) = false := beq_false_of_ne (by omega)
   obtain ⟨r0, _, _⟩ := HP.out a hal
   by_cases h14 : (Tk.tk ts a).1 = 14
   ·rw [if_pos ⟨h2, ha, h14⟩] at HV
    rw [h14] at r0
    rw [h2] at q0
    clear h2 h14
    have hbd2 := Rl.cut_bd (ts := ts) (a := a + 1) (b := y) (by omega)
    have HCT := Lib.hid (Rl.cut_trim (ts := ts) (a := a + 1) (b := y) (by omega) hy)
    have HE := Lib.hid (Rl.trim_edge (Rl.sub ts (a + 1) y))
    have HMem : Hid (∀ t ∈ Rl.trim (Rl.sub ts (a + 1) y), t ∈ ts) := Lib.hid fun t ht => sub_mem (trim_mem ht)
    have HLen : Hid ((Rl.trim (Rl.sub ts (a + 1) y)).length <= ts.length) := Lib.hid (Nat.le_trans (trim_len _) sub_le)
    have CT2 : Hid (∀ W, Below W0.heap.size W0 W -> Calls Tryz.prog 103 #[.slice (some ⟨b, off, none⟩) ts.length ca, .int .i64 ((a : Int) + 1), .int .i64 y] W (Tw (Ns.trA ts y (a + 1)) (Ns.trB ts (Ns.trA ts y (a + 1)) y) W)) := Lib.hid fun W hb => by
     have := ntrim_any ts (by omega) (some ⟨b, off, none⟩) ca (a + 1) y (by omega) hy W (HS.out.next hb).hts
     rwa [show ((a + 1 : Nat) : Int) = (a : Int) + 1 by omega] at this
    have CP : Hid (∀ W, Below W0.heap.size W0 W -> Calls Tryz.prog 102 #[.agg #[.slice (some ⟨b, off, none⟩) ts.length ca, .slice C (Ns.ends ts).length cc], .int .i64 (Ns.trA ts y (a + 1)), .int .i64 (Ns.trB ts (Ns.trA ts y (a + 1)) y)] W (ToldT (Rl.trim (Rl.sub ts (a + 1) y)) W)) := Lib.hid fun W hb => by
     have := spart_any ts (by omega) (some ⟨b, off, none⟩) C ca cc (Ns.trA ts y (a + 1)) (Ns.trB ts (Ns.trA ts y (a + 1)) y) hbd2.2.1 (by omega) W (HS.out.next hb)
     rwa [HCT.out] at this
    have hadd : IntKind.i64.wrap ((a : Int) + 1) = (a : Int) + 1 := IntWalk.i64_in _ (by omega)
    clear HCT hbd2
    generalize Ns.trB ts (Ns.trA ts y (a + 1)) y = c2 at *
    generalize Ns.trA ts y (a + 1) = c1 at *
    generalize Rl.trim (Rl.sub ts (a + 1) y) = v at *
    have hvF : Pr.FairB v := fair_sub hF HLen.out HMem.out
    have hvm := hvF.1
    have CM : Hid (∀ (A : Option Addr) (c : Nat) (W : World), Ts W W.heap.size A v -> Calls Tryz.prog 143 #[.slice A v.length c] W (Nu (Rl.mrk v) W)) := Lib.hid fun A c W hA => marking_any v hvF HE.out A c W hA
    have CN : Hid (∀ W, Below W0.heap.size W0 W -> Calls Tryz.prog 101 #[.agg #[.slice (some ⟨b, off, none⟩) ts.length ca, .slice C (Ns.ends ts).length cc], .int .i64 x] W (Sg (Ru.lowS (Tk.tk ts x).2.1) W)) := Lib.hid fun W hb => sname_any ts hF (some ⟨b, off, none⟩) C ca cc x (by omega) W (HS.out.next hb)
    rcases Rl.mrk_cases HE.out with ⟨hk, hval⟩ | ⟨m, hk, hml, hval⟩
    ·rw [hval] at HV
     rw [hk] at CM
     have CS : Hid (∀ (A : Option Addr) (c : Nat) (W : World), v.length <= c -> Ts W W.heap.size A v -> PTab W.heap.size W -> Calls Tryz.prog 20 #[.slice A v.length c] W (Bo (sd v) W)) := Lib.hid fun A c W hc hA hT => hsd v hvF (wf_sub hwf HMem.out) A c W hc hA hT
     clear hk hval hF hwf hsd hvF HE HMem HLen
     simp only at HV
     generalize sd v = so at *
     generalize Ru.lowS (Tk.tk ts x).2.1 = nm at *
     have tok1 : True := trivial
     go_enter Tryz.func170, Tryz.ntmps170
     go_upto_region 1 with fail
     rw [HW.out]
     clear HW
     go_upto_region 4 with (go_at_call 103; have _t := tok1; ((with_reducible refine (CT.out _ (Below.refl _ _)).mono ?_); rintro e w1 ⟨rfl, b1⟩; have HB1 := Lib.hid b1; have S10 := (HB1.out.cell (p := ⟨w.heap.size, 0, none⟩) hs0).trans p0; have S11 := (HB1.out.cell (p := ⟨w.heap.size, 1, none⟩) hs0).trans p1; have HK1 := Lib.hid (below_block HB1.out HK0.out); obtain ⟨⟨d10, d11, d12⟩, f10, f11, f12⟩ := dec_cells HK1.out; have X1 := (HB1.out.cell (p := ⟨b, off + x * 3, none⟩) hbb).trans q0; have Y1 := (HB1.out.cell (p := ⟨b, off + a * 3, none⟩) hbb).trans r0; clear b1 tok1))
     clear CT
     go_region_held3 (fun w' => w'.cell? ⟨w.heap.size, 0, none⟩ = some (.slice (some ⟨b, off, none⟩) ts.length ca) /\ w'.cell? ⟨w.heap.size, 1, none⟩ = some (.slice C (Ns.ends ts).length cc))
      (first | go_keep | (go_split_ands; exact ⟨(hb9.cell (p := ⟨w.heap.size, 0, none⟩) hs0).trans (by assumption), (hb9.cell (p := ⟨w.heap.size, 1, none⟩) hs0).trans (by assumption)⟩))
      (first | (go_at_call 103; refine (CT2.out _ HB1.out.drew).mono ?_; rintro e w2 ⟨rfl, b2⟩; have hb9 : Below W0.heap.size W0 w2 := HB1.out.drew.trans (b2.mono HB1.out.size); have HB2 := Lib.hid hb9; clear b2) | (go_at_call 102; refine (CP.out _ HB2.out).mono ?_; rintro e w3 ⟨A3, n3, rfl, hc3, T3, b3⟩; have hb9 : Below W0.heap.size W0 w3 := HB2.out.trans (b3.mono HB2.out.size); have HB3 := Lib.hid hb9; have HT3 := Lib.hid T3; have HA3 := Lib.hid T3.1; clear b3 T3))
     cases so
     ·have S30 := (HB3.out.cell (p := ⟨w.heap.size, 0, none⟩) hs0).trans p0; have S31 := (HB3.out.cell (p := ⟨w.heap.size, 1, none⟩) hs0).trans p1; have HK3 := Lib.hid (below_block HB3.out HK0.out); obtain ⟨⟨d30, d31, d32⟩, f30, f31, f32⟩ := dec_cells HK3.out
      go_wp2_with (first | (go_at_call 143; ((with_reducible refine (CM.out _ _ _ HA3.out).mono ?_); rintro e w4 ⟨rfl, b4⟩; have HB4 := Lib.hid (HB3.out.trans (b4.mono HB3.out.size)); have HT4 := Lib.hid (HT3.out.next b4); have HA4 := Lib.hid HT4.out.1; clear b4)) | (go_at_call 20; ((with_reducible refine (CS.out _ _ _ hc3 HA4.out (HT.out.next HB4.out)).mono ?_); rintro e w5 ⟨rfl, b5⟩; have HB5 := Lib.hid (HB4.out.trans (b5.mono HB4.out.size)); have HT5 := Lib.hid (HT4.out.next b5); have S50 := (HB5.out.cell (p := ⟨w.heap.size, 0, none⟩) hs0).trans p0; have S51 := (HB5.out.cell (p := ⟨w.heap.size, 1, none⟩) hs0).trans p1; have HK5 := Lib.hid (below_block HB5.out HK0.out); obtain ⟨⟨d50, d51, d52⟩, f50, f51, f52⟩ := dec_cells HK5.out; clear b5)))
      have hk := set3 HK5.out (.string ⟨#[]⟩) (.slice none 0 0) (.bool false)
      have hbf := set3_belowK (below_next HB0.out HB5.out) (Nat.le_succ _) (.string ⟨#[]⟩) (.slice none 0 0) (.bool false)
      generalize (((w5.setCell ⟨w.heap.size + 1, 0, none⟩ (.string ⟨#[]⟩)).setCell ⟨w.heap.size + 1, 1, none⟩ (.slice none 0 0)).setCell ⟨w.heap.size + 1, 2, none⟩ (.bool false)) = Wf at hk hbf ⊢
      obtain ⟨⟨z0, z1, z2⟩, _⟩ := dec_cells hk
      exact bodyPost_ret (v := .tuple #[.agg #[.string ⟨#[]⟩, .slice none 0 0, .bool false], .bool false]) (by simp [results, Tryz.results170, go_sem, z0, z1, z2]) rfl ⟨(⟨#[]⟩, [], false), false, none, 0, rfl, Nat.le_refl _, ⟨fun h0 => by simp at h0, fun _ _ _ _ hA => by cases hA⟩, hbf, by rw [HV.out]; rfl⟩
     ·have S30 := (HB3.out.cell (p := ⟨w.heap.size, 0, none⟩) hs0).trans p0; have S31 := (HB3.out.cell (p := ⟨w.heap.size, 1, none⟩) hs0).trans p1; have HK3 := Lib.hid (below_block HB3.out HK0.out); obtain ⟨⟨d30, d31, d32⟩, f30, f31, f32⟩ := dec_cells HK3.out
      go_wp2_with (first | (go_at_call 143; ((with_reducible refine (CM.out _ _ _ HA3.out).mono ?_); rintro e w4 ⟨rfl, b4⟩; have HB4 := Lib.hid (HB3.out.trans (b4.mono HB3.out.size)); have HT4 := Lib.hid (HT3.out.next b4); have HA4 := Lib.hid HT4.out.1; clear b4)) | (go_at_call 20; ((with_reducible refine (CS.out _ _ _ hc3 HA4.out (HT.out.next HB4.out)).mono ?_); rintro e w5 ⟨rfl, b5⟩; have HB5 := Lib.hid (HB4.out.trans (b5.mono HB4.out.size)); have HT5 := Lib.hid (HT4.out.next b5); have S50 := (HB5.out.cell (p := ⟨w.heap.size, 0, none⟩) hs0).trans p0; have S51 := (HB5.out.cell (p := ⟨w.heap.size, 1, none⟩) hs0).trans p1; have HK5 := Lib.hid (below_block HB5.out HK0.out); obtain ⟨⟨d50, d51, d52⟩, f50, f51, f52⟩ := dec_cells HK5.out; clear b5)) | (go_at_call 101; ((with_reducible refine (CN.out _ HB5.out).mono ?_); rintro e w6 ⟨rfl, b6⟩; have HB6 := Lib.hid (HB5.out.trans (b6.mono HB5.out.size)); have HT6 := Lib.hid (HT5.out.next b6); have S60 := (HB6.out.cell (p := ⟨w.heap.size, 0, none⟩) hs0).trans p0; have S61 := (HB6.out.cell (p := ⟨w.heap.size, 1, none⟩) hs0).trans p1; have HK6 := Lib.hid (below_block HB6.out HK0.out); obtain ⟨⟨d60, d61, d62⟩, f60, f61, f62⟩ := dec_cells HK6.out; clear b6)))
      have hk := set3 HK6.out (.string nm) (.slice A3 v.length n3) (.bool false)
      have hbf := set3_belowK (below_next HB0.out HB6.out) (Nat.le_succ _) (.string nm) (.slice A3 v.length n3) (.bool false)
      have htf := ts_set3 HT6.out.1 HK6.out (.string nm) (.slice A3 v.length n3) (.bool false)
      have hty := tyd_set3 HT6.out.2 HK6.out (.string nm) (.slice A3 v.length n3) (.bool false)
      rw [<- size_set3 w6 (w.heap.size + 1) (.string nm) (.slice A3 v.length n3) (.bool false)] at htf
      generalize (((w6.setCell ⟨w.heap.size + 1, 0, none⟩ (.string nm)).setCell ⟨w.heap.size + 1, 1, none⟩ (.slice A3 v.length n3)).setCell ⟨w.heap.size + 1, 2, none⟩ (.bool false)) = Wf at hk hbf htf hty ⊢
      obtain ⟨⟨z0, z1, z2⟩, _⟩ := dec_cells hk
      exact bodyPost_ret (v := .tuple #[.agg #[.string nm, .slice A3 v.length n3, .bool false], .bool true]) (by simp [results, Tryz.results170, go_sem, z0, z1, z2]) rfl ⟨(nm, v, false), true, A3, n3, rfl, hc3, ⟨htf, hty⟩, hbf, by rw [HV.out]; rfl⟩
    ·rw [hval] at HV
     rw [hk] at CM
     have CTv : Hid (∀ (A : Option Addr) (c : Nat) (W : World), Ts W W.heap.size A v -> Calls Tryz.prog 103 #[.slice A v.length c, .int .i64 0, .int .i64 m] W (Tw (Ns.trA v m 0) (Ns.trB v (Ns.trA v m 0) m) W)) := Lib.hid fun A c W hA => ntrim_any v (by omega) A c 0 m (Nat.zero_le _) (by omega) W hA
     have hbv := Rl.cut_bd (ts := v) (a := 0) (b := m) (Nat.zero_le _)
     have CQ : Hid (∀ (A : Option Addr) (c : Nat) (W : World), v.length <= c -> Ts W W.heap.size A v -> Calls Tryz.prog 166 #[.slice A v.length c, .int .i64 0, .int .i64 (Ns.trB v (Ns.trA v m 0) m)] W (ToldT (Rl.sub v 0 (Ns.trB v (Ns.trA v m 0) m)) W)) := Lib.hid fun A c W hc hA => part_any v (by omega) A c hc 0 (Ns.trB v (Ns.trA v m 0) m) (Nat.zero_le _) (by omega) W hA
     have huM : ∀ t ∈ Rl.sub v 0 (Ns.trB v (Ns.trA v m 0) m), t ∈ ts := fun t ht => HMem.out t (sub_mem ht)
     have huF : Pr.FairB (Rl.sub v 0 (Ns.trB v (Ns.trA v m 0) m)) := fair_sub hF (Nat.le_trans sub_le HLen.out) huM
     have CS : Hid (∀ (A : Option Addr) (c : Nat) (W : World), (Rl.sub v 0 (Ns.trB v (Ns.trA v m 0) m)).length <= c -> Ts W W.heap.size A (Rl.sub v 0 (Ns.trB v (Ns.trA v m 0) m)) -> PTab W.heap.size W -> Calls Tryz.prog 20 #[.slice A (Rl.sub v 0 (Ns.trB v (Ns.trA v m 0) m)).length c] W (Bo (sd (Rl.sub v 0 (Ns.trB v (Ns.trA v m 0) m))) W)) := Lib.hid fun A c W hc hA hT => hsd _ huF (wf_sub hwf huM) A c W hc hA hT
     have d0 : decide ((0 : Int) <= (m : Int)) = true := decide_eq_true (by omega)
     clear hk hval hF hwf hsd hvF HE HMem HLen huM huF hbv
     simp only at HV
     generalize Rl.sub v 0 (Ns.trB v (Ns.trA v m 0) m) = u at *
     generalize Ns.trB v (Ns.trA v m 0) m = t2 at *
     generalize Ns.trA v m 0 = t1 at *
     generalize sd u = so at *
     generalize Ru.lowS (Tk.tk ts x).2.1 = nm at *
     have tok1 : True := trivial
     go_enter Tryz.func170, Tryz.ntmps170
     go_upto_region 1 with fail
     rw [HW.out]
     clear HW
     go_upto_region 4 with (go_at_call 103; have _t := tok1; ((with_reducible refine (CT.out _ (Below.refl _ _)).mono ?_); rintro e w1 ⟨rfl, b1⟩; have HB1 := Lib.hid b1; have S10 := (HB1.out.cell (p := ⟨w.heap.size, 0, none⟩) hs0).trans p0; have S11 := (HB1.out.cell (p := ⟨w.heap.size, 1, none⟩) hs0).trans p1; have HK1 := Lib.hid (below_block HB1.out HK0.out); obtain ⟨⟨d10, d11, d12⟩, f10, f11, f12⟩ := dec_cells HK1.out; have X1 := (HB1.out.cell (p := ⟨b, off + x * 3, none⟩) hbb).trans q0; have Y1 := (HB1.out.cell (p := ⟨b, off + a * 3, none⟩) hbb).trans r0; clear b1 tok1))
     clear CT
     go_region_held3 (fun w' => w'.cell? ⟨w.heap.size, 0, none⟩ = some (.slice (some ⟨b, off, none⟩) ts.length ca) /\ w'.cell? ⟨w.heap.size, 1, none⟩ = some (.slice C (Ns.ends ts).length cc))
      (first | go_keep | (go_split_ands; exact ⟨(hb9.cell (p := ⟨w.heap.size, 0, none⟩) hs0).trans (by assumption), (hb9.cell (p := ⟨w.heap.size, 1, none⟩) hs0).trans (by assumption)⟩))
      (first | (go_at_call 103; refine (CT2.out _ HB1.out.drew).mono ?_; rintro e w2 ⟨rfl, b2⟩; have hb9 : Below W0.heap.size W0 w2 := HB1.out.drew.trans (b2.mono HB1.out.size); have HB2 := Lib.hid hb9; clear b2) | (go_at_call 102; refine (CP.out _ HB2.out).mono ?_; rintro e w3 ⟨A3, n3, rfl, hc3, T3, b3⟩; have hb9 : Below W0.heap.size W0 w3 := HB2.out.trans (b3.mono HB2.out.size); have HB3 := Lib.hid hb9; have HT3 := Lib.hid T3; have HA3 := Lib.hid T3.1; clear b3 T3))
     have tok2 : True := trivial
     cases so
     ·have S30 := (HB3.out.cell (p := ⟨w.heap.size, 0, none⟩) hs0).trans p0; have S31 := (HB3.out.cell (p := ⟨w.heap.size, 1, none⟩) hs0).trans p1; have HK3 := Lib.hid (below_block HB3.out HK0.out); obtain ⟨⟨d30, d31, d32⟩, f30, f31, f32⟩ := dec_cells HK3.out
      go_wp2_with (first | (go_at_call 143; ((with_reducible refine (CM.out _ _ _ HA3.out).mono ?_); rintro e w4 ⟨rfl, b4⟩; have HB4 := Lib.hid (HB3.out.trans (b4.mono HB3.out.size)); have HT4 := Lib.hid (HT3.out.next b4); have HA4 := Lib.hid HT4.out.1; clear b4)) | (go_at_call 103; have _t := tok2; ((with_reducible refine (CTv.out _ _ _ HA4.out).mono ?_); rintro e w7 ⟨rfl, b7⟩; have HB7 := Lib.hid (HB4.out.trans (b7.mono HB4.out.size)); have HT7 := Lib.hid (HT4.out.next b7); have HA7 := Lib.hid HT7.out.1; clear b7 tok2)) | (go_at_call 166; ((with_reducible refine (CQ.out _ _ _ hc3 HA7.out).mono ?_); rintro e w8 ⟨A8, n8, rfl, hc8, T8, b8⟩; have HB8 := Lib.hid (HB7.out.trans (b8.mono HB7.out.size)); have HT8 := Lib.hid T8; have HA8 := Lib.hid T8.1; clear b8 T8)) | (go_at_call 20; ((with_reducible refine (CS.out _ _ _ hc8 HA8.out (HT.out.next HB8.out)).mono ?_); rintro e w5 ⟨rfl, b5⟩; have HB5 := Lib.hid (HB8.out.trans (b5.mono HB8.out.size)); have HT5 := Lib.hid (HT8.out.next b5); have S50 := (HB5.out.cell (p := ⟨w.heap.size, 0, none⟩) hs0).trans p0; have S51 := (HB5.out.cell (p := ⟨w.heap.size, 1, none⟩) hs0).trans p1; have HK5 := Lib.hid (below_block HB5.out HK0.out); obtain ⟨⟨d50, d51, d52⟩, f50, f51, f52⟩ := dec_cells HK5.out; clear b5)))
      have hk := set3 HK5.out (.string ⟨#[]⟩) (.slice none 0 0) (.bool false)
      have hbf := set3_belowK (below_next HB0.out HB5.out) (Nat.le_succ _) (.string ⟨#[]⟩) (.slice none 0 0) (.bool false)
      generalize (((w5.setCell ⟨w.heap.size + 1, 0, none⟩ (.string ⟨#[]⟩)).setCell ⟨w.heap.size + 1, 1, none⟩ (.slice none 0 0)).setCell ⟨w.heap.size + 1, 2, none⟩ (.bool false)) = Wf at hk hbf ⊢
      obtain ⟨⟨z0, z1, z2⟩, _⟩ := dec_cells hk
      exact bodyPost_ret (v := .tuple #[.agg #[.string ⟨#[]⟩, .slice none 0 0, .bool false], .bool false]) (by simp [results, Tryz.results170, go_sem, z0, z1, z2]) rfl ⟨(⟨#[]⟩, [], false), false, none, 0, rfl, Nat.le_refl _, ⟨fun h0 => by simp at h0, fun _ _ _ _ hA => by cases hA⟩, hbf, by rw [HV.out]; rfl⟩
     ·have S30 := (HB3.out.cell (p := ⟨w.heap.size, 0, none⟩) hs0).trans p0; have S31 := (HB3.out.cell (p := ⟨w.heap.size, 1, none⟩) hs0).trans p1; have HK3 := Lib.hid (below_block HB3.out HK0.out); obtain ⟨⟨d30, d31, d32⟩, f30, f31, f32⟩ := dec_cells HK3.out
      go_wp2_with (first | (go_at_call 143; ((with_reducible refine (CM.out _ _ _ HA3.out).mono ?_); rintro e w4 ⟨rfl, b4⟩; have HB4 := Lib.hid (HB3.out.trans (b4.mono HB3.out.size)); have HT4 := Lib.hid (HT3.out.next b4); have HA4 := Lib.hid HT4.out.1; clear b4)) | (go_at_call 103; have _t := tok2; ((with_reducible refine (CTv.out _ _ _ HA4.out).mono ?_); rintro e w7 ⟨rfl, b7⟩; have HB7 := Lib.hid (HB4.out.trans (b7.mono HB4.out.size)); have HT7 := Lib.hid (HT4.out.next b7); have HA7 := Lib.hid HT7.out.1; clear b7 tok2)) | (go_at_call 166; ((with_reducible refine (CQ.out _ _ _ hc3 HA7.out).mono ?_); rintro e w8 ⟨A8, n8, rfl, hc8, T8, b8⟩; have HB8 := Lib.hid (HB7.out.trans (b8.mono HB7.out.size)); have HT8 := Lib.hid T8; have HA8 := Lib.hid T8.1; clear b8 T8)) | (go_at_call 20; ((with_reducible refine (CS.out _ _ _ hc8 HA8.out (HT.out.next HB8.out)).mono ?_); rintro e w5 ⟨rfl, b5⟩; have HB5 := Lib.hid (HB8.out.trans (b5.mono HB8.out.size)); have HT5 := Lib.hid (HT8.out.next b5); have S50 := (HB5.out.cell (p := ⟨w.heap.size, 0, none⟩) hs0).trans p0; have S51 := (HB5.out.cell (p := ⟨w.heap.size, 1, none⟩) hs0).trans p1; have HK5 := Lib.hid (below_block HB5.out HK0.out); obtain ⟨⟨d50, d51, d52⟩, f50, f51, f52⟩ := dec_cells HK5.out; clear b5)) | (go_at_call 101; ((with_reducible refine (CN.out _ HB5.out).mono ?_); rintro e w6 ⟨rfl, b6⟩; have HB6 := Lib.hid (HB5.out.trans (b6.mono HB5.out.size)); have HT6 := Lib.hid (HT5.out.next b6); have S60 := (HB6.out.cell (p := ⟨w.heap.size, 0, none⟩) hs0).trans p0; have S61 := (HB6.out.cell (p := ⟨w.heap.size, 1, none⟩) hs0).trans p1; have HK6 := Lib.hid (below_block HB6.out HK0.out); obtain ⟨⟨d60, d61, d62⟩, f60, f61, f62⟩ := dec_cells HK6.out; clear b6)))
      have hk := set3 HK6.out (.string nm) (.slice A8 u.length n8) (.bool true)
      have hbf := set3_belowK (below_next HB0.out HB6.out) (Nat.le_succ _) (.string nm) (.slice A8 u.length n8) (.bool true)
      have htf := ts_set3 HT6.out.1 HK6.out (.string nm) (.slice A8 u.length n8) (.bool true)
      have hty := tyd_set3 HT6.out.2 HK6.out (.string nm) (.slice A8 u.length n8) (.bool true)
      rw [<- size_set3 w6 (w.heap.size + 1) (.string nm) (.slice A8 u.length n8) (.bool true)] at htf
      generalize (((w6.setCell ⟨w.heap.size + 1, 0, none⟩ (.string nm)).setCell ⟨w.heap.size + 1, 1, none⟩ (.slice A8 u.length n8)).setCell ⟨w.heap.size + 1, 2, none⟩ (.bool true)) = Wf at hk hbf htf hty ⊢
      obtain ⟨⟨z0, z1, z2⟩, _⟩ := dec_cells hk
      exact bodyPost_ret (v := .tuple #[.agg #[.string nm, .slice A8 u.length n8, .bool true], .bool true]) (by simp [results, Tryz.results170, go_sem, z0, z1, z2]) rfl ⟨(nm, u, true), true, A8, n8, rfl, hc8, ⟨htf, hty⟩, hbf, by rw [HV.out]; rfl⟩
   ·have hn : ((Tk.tk ts a).1 != 14) = true := Ru.ne_t h14
    have hne : ((Tk.tk ts a).1 == 14) = false := beq_false_of_ne h14
    rw [if_neg (fun c => h14 c.2.2)] at HV
    rw [h2] at q0
    clear h2 h14 hsd hF hwf
    generalize (Tk.tk ts a).1 = ka at *
    have tok1 : True := trivial
    go_enter Tryz.func170, Tryz.ntmps170
    go_upto_region 1 with fail
    rw [HW.out]
    clear HW
    go_wp2_with (go_at_call 103; have _t := tok1; ((with_reducible refine (CT.out _ (Below.refl _ _)).mono ?_); rintro e w1 ⟨rfl, b1⟩; have HB1 := Lib.hid b1; have S10 := (HB1.out.cell (p := ⟨w.heap.size, 0, none⟩) hs0).trans p0; have S11 := (HB1.out.cell (p := ⟨w.heap.size, 1, none⟩) hs0).trans p1; have HK1 := Lib.hid (below_block HB1.out HK0.out); obtain ⟨⟨d10, d11, d12⟩, f10, f11, f12⟩ := dec_cells HK1.out; have X1 := (HB1.out.cell (p := ⟨b, off + x * 3, none⟩) hbb).trans q0; have Y1 := (HB1.out.cell (p := ⟨b, off + a * 3, none⟩) hbb).trans r0; clear b1 tok1))
    have hk := set3 HK1.out (.string ⟨#[]⟩) (.slice none 0 0) (.bool false)
    have hbf := set3_belowK (below_next HB0.out HB1.out) (Nat.le_succ _) (.string ⟨#[]⟩) (.slice none 0 0) (.bool false)
    generalize (((w1.setCell ⟨w.heap.size + 1, 0, none⟩ (.string ⟨#[]⟩)).setCell ⟨w.heap.size + 1, 1, none⟩ (.slice none 0 0)).setCell ⟨w.heap.size + 1, 2, none⟩ (.bool false)) = Wf at hk hbf ⊢
    obtain ⟨⟨z0, z1, z2⟩, _⟩ := dec_cells hk
    exact bodyPost_ret (v := .tuple #[.agg #[.string ⟨#[]⟩, .slice none 0 0, .bool false], .bool false]) (by simp [results, Tryz.results170, go_sem, z0, z1, z2]) rfl ⟨(⟨#[]⟩, [], false), false, none, 0, rfl, Nat.le_refl _, ⟨fun h0 => by simp at h0, fun _ _ _ _ hA => by cases hA⟩, hbf, by rw [HV.out]; rfl⟩
  ·have haeq : a = y := by omega
   subst haeq
   rw [if_neg (fun c => ha c.2.1)] at HV
   rw [h2] at q0
   clear h2 ha hsd hF hwf
   have tok1 : True := trivial
   go_enter Tryz.func170, Tryz.ntmps170
   go_upto_region 1 with fail
   rw [HW.out]
   clear HW
   go_wp2_with (go_at_call 103; have _t := tok1; ((with_reducible refine (CT.out _ (Below.refl _ _)).mono ?_); rintro e w1 ⟨rfl, b1⟩; have HB1 := Lib.hid b1; have S10 := (HB1.out.cell (p := ⟨w.heap.size, 0, none⟩) hs0).trans p0; have S11 := (HB1.out.cell (p := ⟨w.heap.size, 1, none⟩) hs0).trans p1; have HK1 := Lib.hid (below_block HB1.out HK0.out); obtain ⟨⟨d10, d11, d12⟩, f10, f11, f12⟩ := dec_cells HK1.out; have X1 := (HB1.out.cell (p := ⟨b, off + x * 3, none⟩) hbb).trans q0; clear b1 tok1))
   have hk := set3 HK1.out (.string ⟨#[]⟩) (.slice none 0 0) (.bool false)
   have hbf := set3_belowK (below_next HB0.out HB1.out) (Nat.le_succ _) (.string ⟨#[]⟩) (.slice none 0 0) (.bool false)
   generalize (((w1.setCell ⟨w.heap.size + 1, 0, none⟩ (.string ⟨#[]⟩)).setCell ⟨w.heap.size + 1, 1, none⟩ (.slice none 0 0)).setCell ⟨w.heap.size + 1, 2, none⟩ (.bool false)) = Wf at hk hbf ⊢
   obtain ⟨⟨z0, z1, z2⟩, _⟩ := dec_cells hk
   exact bodyPost_ret (v := .tuple #[.agg #[.string ⟨#[]⟩, .slice none 0 0, .bool false], .bool false]) (by simp [results, Tryz.results170, go_sem, z0, z1, z2]) rfl ⟨(⟨#[]⟩, [], false), false, none, 0, rfl, Nat.le_refl _, ⟨fun h0 => by simp at h0, fun _ _ _ _ hA => by cases hA⟩, hbf, by rw [HV.out]; rfl⟩
 ·have hn : ((Tk.tk ts x).1 != 2) = true := Ru.ne_t h2
  have hne : ((Tk.tk ts x).1 == 2) = false := beq_false_of_ne h2
  rw [if_neg (fun c => h2 c.1)] at HV
  clear h2 hsd hF hwf
  generalize (Tk.tk ts x).1 = kx at *
  have tok1 : True := trivial
  go_enter Tryz.func170, Tryz.ntmps170
  go_upto_region 1 with fail
  rw [HW.out]
  clear HW
  go_wp2_with (go_at_call 103; have _t := tok1; ((with_reducible refine (CT.out _ (Below.refl _ _)).mono ?_); rintro e w1 ⟨rfl, b1⟩; have HB1 := Lib.hid b1; have S10 := (HB1.out.cell (p := ⟨w.heap.size, 0, none⟩) hs0).trans p0; have S11 := (HB1.out.cell (p := ⟨w.heap.size, 1, none⟩) hs0).trans p1; have HK1 := Lib.hid (below_block HB1.out HK0.out); obtain ⟨⟨d10, d11, d12⟩, f10, f11, f12⟩ := dec_cells HK1.out; have X1 := (HB1.out.cell (p := ⟨b, off + x * 3, none⟩) hbb).trans q0; clear b1 tok1))
  have hk := set3 HK1.out (.string ⟨#[]⟩) (.slice none 0 0) (.bool false)
  have hbf := set3_belowK (below_next HB0.out HB1.out) (Nat.le_succ _) (.string ⟨#[]⟩) (.slice none 0 0) (.bool false)
  generalize (((w1.setCell ⟨w.heap.size + 1, 0, none⟩ (.string ⟨#[]⟩)).setCell ⟨w.heap.size + 1, 1, none⟩ (.slice none 0 0)).setCell ⟨w.heap.size + 1, 2, none⟩ (.bool false)) = Wf at hk hbf ⊢
  obtain ⟨⟨z0, z1, z2⟩, _⟩ := dec_cells hk
  exact bodyPost_ret (v := .tuple #[.agg #[.string ⟨#[]⟩, .slice none 0 0, .bool false], .bool false]) (by simp [results, Tryz.results170, go_sem, z0, z1, z2]) rfl ⟨(⟨#[]⟩, [], false), false, none, 0, rfl, Nat.le_refl _, ⟨fun h0 => by simp at h0, fun _ _ _ _ hA => by cases hA⟩, hbf, by rw [HV.out]; rfl⟩
def Rl.mgB (ts : List Tk.Tok) (a e : Nat) : Bool := Rl.brB (Tk.tk ts e) && (decide (0 <= Rl.box (Ru.lowS (Tk.tk ts a).2.1)) && decide (Rl.trim (Rl.sub ts (a + 1) e) = []))
theorem ismargin_any (ts : List Tk.Tok) (hF : Pr.FairB ts) (A C : Option Addr) (ca cc : Nat) (a e : Nat) (hae : a < e) (he : e < ts.length) (w : World) (h : Sh ts A ca C w) (hT : BTab w.heap.size w) :
 Calls Tryz.prog 167 #[shV A ts.length ca C (Ns.ends ts).length cc, .int .i64 a, .int .i64 e] w (Bo (Rl.mgB ts a e) w) := by
 obtain ⟨W0, hW⟩ : ∃ W0, W0 = w.alloc (.cells #[.slice A ts.length ca, .slice C (Ns.ends ts).length cc] 58) := ⟨_, rfl⟩
 have hb0 : Below w.heap.size w W0 := by rw [hW]; exact (Below.refl _ _).alloc (Nat.le_refl _) _
 have k0 : W0.heap[w.heap.size]? = some (.cells #[.slice A ts.length ca, .slice C (Ns.ends ts).length cc] 58 (0, 0)) := by rw [hW]; exact heap_alloc_new w _
 obtain ⟨p0, p1⟩ := sh_cells k0
 have hs0 : w.heap.size < W0.heap.size := by rw [hW]; simp
 have HB0 := Lib.hid hb0
 have HW := Lib.hid hW.symm
 have HS := Lib.hid (h.next hb0)
 have HT := Lib.hid (hT.next hb0)
 have hm := hF.1
 have hbd := Rl.cut_bd (ts := ts) (a := a + 1) (b := e) (by omega)
 have HL : Hid (Rl.trim (Rl.sub ts (a + 1) e) = [] ↔ Ns.trA ts e (a + 1) = Ns.trB ts (Ns.trA ts e (a + 1)) e) := Lib.hid (by
  have h1 := Rl.cut_trim (ts := ts) (a := a + 1) (b := e) (by omega) (by omega)
  have h2 := Rl.sub_len (ts := ts) (a := Ns.trA ts e (a + 1)) (b := Ns.trB ts (Ns.trA ts e (a + 1)) e) (by omega)
  rw [h1] at h2
  rw [<- List.length_eq_zero_iff, h2]
  omega)
 have CT : Hid (∀ W, Below W0.heap.size W0 W -> Calls Tryz.prog 103 #[.slice A ts.length ca, .int .i64 ((a : Int) + 1), .int .i64 e] W (Tw (Ns.trA ts e (a + 1)) (Ns.trB ts (Ns.trA ts e (a + 1)) e) W)) := Lib.hid fun W hb => by
  have := ntrim_any ts (by omega) A ca (a + 1) e (by omega) (by omega) W (HS.out.next hb).hts
  rwa [show ((a + 1 : Nat) : Int) = (a : Int) + 1 by omega] at this
 have CN : Hid (∀ W, Below W0.heap.size W0 W -> Calls Tryz.prog 101 #[.agg #[.slice A ts.length ca, .slice C (Ns.ends ts).length cc], .int .i64 a] W (Sg (Ru.lowS (Tk.tk ts a).2.1) W)) := Lib.hid fun W hb => sname_any ts hF A C ca cc a (by omega) W (HS.out.next hb)
 have hls : (Ru.lowS (Tk.tk ts a).2.1).size <= 90000 := by rw [Ru.lowS_size]; exact tk_size hF (by omega)
 have CX : Hid (∀ W, Below W0.heap.size W0 W -> Calls Tryz.prog 19 #[.string (Ru.lowS (Tk.tk ts a).2.1)] W (Nu (Rl.box (Ru.lowS (Tk.tk ts a).2.1)) W)) := Lib.hid fun W hb => cbox_any _ hls W (HT.out.next hb)
 have CO : Hid (∀ W, Calls Tryz.prog 100 #[.agg #[.int .i64 (Tk.tk ts e).1, .string (Tk.tk ts e).2.1, .int .i64 (Tk.tk ts e).2.2]] W (Bo (Rl.brB (Tk.tk ts e)) W)) := Lib.hid fun W => opensBlock_any _ W
 have HV : Hid (Rl.mgB ts a e = (Rl.brB (Tk.tk ts e) && (decide (0 <= Rl.box (Ru.lowS (Tk.tk ts a).2.1)) && decide (Rl.trim (Rl.sub ts (a + 1) e) = [])))) := Lib.hid rfl
 obtain ⟨b, off, rfl, hbb, hp⟩ := HS.out.hts (by omega)
 obtain ⟨q0, q1, q2⟩ := hp e he
 have hei : (e : Int) < (ts.length : Int) := by omega
 clear hb0 k0 hW h hT hp hF hls
 unfold shV
 generalize Rl.trim (Rl.sub ts (a + 1) e) = T at *
 generalize Rl.mgB ts a e = res at *
 generalize Rl.box (Ru.lowS (Tk.tk ts a).2.1) = bx at *
 generalize Ru.lowS (Tk.tk ts a).2.1 = lo at *
 generalize Rl.brB (Tk.tk ts e) = br at *
 generalize Tk.tk ts e = u at *
 generalize Ns.trB ts (Ns.trA ts e (a + 1)) e = y at *
 generalize Ns.trA ts e (a + 1) = x at *
 cases br
 ·go_enter Tryz.func167, Tryz.ntmps167
  go_upto_region 1 with fail
  rw [HW.out]
  clear HW
  go_wp2_with (first | (go_at_call 103; ((with_reducible refine (CT.out _ (Below.refl _ _)).mono ?_); rintro e1 w1 ⟨rfl, b1⟩; have HB1 := Lib.hid b1; have s0 := (b1.cell (p := ⟨w.heap.size, 0, none⟩) hs0).trans p0; have s1 := (b1.cell (p := ⟨w.heap.size, 1, none⟩) hs0).trans p1; have r0 := (b1.cell (p := ⟨b, off + e * 3, none⟩) hbb).trans q0; have r1 := (b1.cell (p := ⟨b, off + e * 3 + 1, none⟩) hbb).trans q1; have r2 := (b1.cell (p := ⟨b, off + e * 3 + 2, none⟩) hbb).trans q2; clear b1)) | (go_at_call 100; ((with_reducible refine (CO.out _).mono ?_); rintro e2 w2 ⟨rfl, b2⟩; have HB2 := Lib.hid (below_next HB1.out b2); clear b2)))
  go_ret
  exact ⟨by rw [HV.out]; rfl, below_next HB0.out HB2.out⟩
 ·by_cases hx : 0 <= bx
  ·have d0 : decide (0 <= bx) = true := decide_eq_true hx
   have d1 : ((x : Int) == (y : Int)) = decide (T = []) := by
    rw [Bool.eq_iff_iff, beq_iff_eq, decide_eq_true_iff, HL.out]; omega
   have d2 : (x == y) = decide (T = []) := by
    rw [Bool.eq_iff_iff, beq_iff_eq, decide_eq_true_iff, HL.out]
   rw [d0] at HV
   clear hx HL
   generalize decide (T = []) = dt at *
   go_enter Tryz.func167, Tryz.ntmps167
   go_upto_region 1 with fail
   rw [HW.out]
   clear HW
   go_wp2_with (first | (go_at_call 103; ((with_reducible refine (CT.out _ (Below.refl _ _)).mono ?_); rintro e1 w1 ⟨rfl, b1⟩; have HB1 := Lib.hid b1; have s0 := (b1.cell (p := ⟨w.heap.size, 0, none⟩) hs0).trans p0; have s1 := (b1.cell (p := ⟨w.heap.size, 1, none⟩) hs0).trans p1; have r0 := (b1.cell (p := ⟨b, off + e * 3, none⟩) hbb).trans q0; have r1 := (b1.cell (p := ⟨b, off + e * 3 + 1, none⟩) hbb).trans q1; have r2 := (b1.cell (p := ⟨b, off + e * 3 + 2, none⟩) hbb).trans q2; clear b1)) | (go_at_call 100; ((with_reducible refine (CO.out _).mono ?_); rintro e2 w2 ⟨rfl, b2⟩; have HB2 := Lib.hid (below_next HB1.out b2); have t0 := (HB2.out.cell (p := ⟨w.heap.size, 0, none⟩) hs0).trans p0; have t1 := (HB2.out.cell (p := ⟨w.heap.size, 1, none⟩) hs0).trans p1; clear b2)) | (go_at_call 101; ((with_reducible refine (CN.out _ HB2.out).mono ?_); rintro e3 w3 ⟨rfl, b3⟩; have HB3 := Lib.hid (below_next HB2.out b3); clear b3)) | (go_at_call 19; ((with_reducible refine (CX.out _ HB3.out).mono ?_); rintro e4 w4 ⟨rfl, b4⟩; have HB4 := Lib.hid (below_next HB3.out b4); clear b4)))
   go_ret
   exact ⟨by rw [HV.out]; rfl, below_next HB0.out HB4.out⟩
  ·have d0 : decide (0 <= bx) = false := decide_eq_false hx
   rw [d0] at HV
   clear hx HL
   go_enter Tryz.func167, Tryz.ntmps167
   go_upto_region 1 with fail
   rw [HW.out]
   clear HW
   go_wp2_with (first | (go_at_call 103; ((with_reducible refine (CT.out _ (Below.refl _ _)).mono ?_); rintro e1 w1 ⟨rfl, b1⟩; have HB1 := Lib.hid b1; have s0 := (b1.cell (p := ⟨w.heap.size, 0, none⟩) hs0).trans p0; have s1 := (b1.cell (p := ⟨w.heap.size, 1, none⟩) hs0).trans p1; have r0 := (b1.cell (p := ⟨b, off + e * 3, none⟩) hbb).trans q0; have r1 := (b1.cell (p := ⟨b, off + e * 3 + 1, none⟩) hbb).trans q1; have r2 := (b1.cell (p := ⟨b, off + e * 3 + 2, none⟩) hbb).trans q2; clear b1)) | (go_at_call 100; ((with_reducible refine (CO.out _).mono ?_); rintro e2 w2 ⟨rfl, b2⟩; have HB2 := Lib.hid (below_next HB1.out b2); have t0 := (HB2.out.cell (p := ⟨w.heap.size, 0, none⟩) hs0).trans p0; have t1 := (HB2.out.cell (p := ⟨w.heap.size, 1, none⟩) hs0).trans p1; clear b2)) | (go_at_call 101; ((with_reducible refine (CN.out _ HB2.out).mono ?_); rintro e3 w3 ⟨rfl, b3⟩; have HB3 := Lib.hid (below_next HB2.out b3); clear b3)) | (go_at_call 19; ((with_reducible refine (CX.out _ HB3.out).mono ?_); rintro e4 w4 ⟨rfl, b4⟩; have HB4 := Lib.hid (below_next HB3.out b4); clear b4)))
   go_ret
   exact ⟨by rw [HV.out]; rfl, below_next HB0.out HB4.out⟩
namespace Rl
open Tk Ns
theorem set_only {w : World} {g i : Nat} {cs : Array Value} {E : TypeId} {fz : Nat × Nat} (h : w.heap[g]? = some (.cells cs E fz)) (x : Value) : Only E (some g) w (w.setCell ⟨g, i, none⟩ x) := by
 refine ⟨by simp [World.setCell], fun b ks T fz' hb hne => ?_⟩
 have hbg : b ≠ g := by
  rintro rfl
  rw [h] at hb
  injection hb with hb
  injection hb with _ h2 _
  rcases hne with hne | hne
  ·exact hne h2.symm
  ·exact hne rfl
 exact Below.heap_setCell _ _ _ _ hbg
theorem Only.trans {E : TypeId} {g : Option Nat} {w w1 w2 : World} (h1 : Only E g w w1) (h2 : Only E g w1 w2) : Only E g w w2 :=
 ⟨Nat.le_trans h1.1 h2.1, fun b cs T fz hb hne => (h2.2 b cs T fz ((h1.2 b cs T fz hb hne).trans hb) hne).trans (h1.2 b cs T fz hb hne)⟩
theorem four_cells {w : World} {k : Nat} {a b c d : Value} {E : TypeId} (h : w.heap[k]? = some (.cells #[a, b, c, d] E (0, 0))) :
 (w.cell? ⟨k, 0, none⟩ = some a /\ w.cell? ⟨k, 1, none⟩ = some b /\ w.cell? ⟨k, 2, none⟩ = some c /\ w.cell? ⟨k, 3, none⟩ = some d) /\ (w.frozen? ⟨k, 0, none⟩ = false /\ w.frozen? ⟨k, 1, none⟩ = false /\ w.frozen? ⟨k, 2, none⟩ = false /\ w.frozen? ⟨k, 3, none⟩ = false) := by
 refine ⟨?_, ?_⟩
 ·refine ⟨?_, ?_, ?_, ?_⟩ <;> simp [World.cell?, h]
 ·refine ⟨?_, ?_, ?_, ?_⟩ <;> simp [World.frozen?, h]
theorem set_kind {w : World} {k : Nat} {a b c d : Value} {E : TypeId} (h : w.heap[k]? = some (.cells #[a, b, c, d] E (0, 0))) (x : Value) : (w.setCell ⟨k, 0, none⟩ x).heap[k]? = some (.cells #[x, b, c, d] E (0, 0)) := by
 simp [World.setCell, Array.getElem?_modify, h]
theorem set_two {w : World} {k : Nat} {a b c d : Value} {E : TypeId} (h : w.heap[k]? = some (.cells #[a, b, c, d] E (0, 0))) (x y : Value) : ((w.setCell ⟨k, 2, none⟩ x).setCell ⟨k, 3, none⟩ y).heap[k]? = some (.cells #[a, b, x, y] E (0, 0)) := by
 simp [World.setCell, Array.getElem?_modify, h]
theorem only_two {w : World} {k : Nat} {a b c d : Value} {E : TypeId} (h : w.heap[k]? = some (.cells #[a, b, c, d] E (0, 0))) (x y : Value) : Only E (some k) w ((w.setCell ⟨k, 2, none⟩ x).setCell ⟨k, 3, none⟩ y) := by
 have h2 : (w.setCell ⟨k, 2, none⟩ x).heap[k]? = some (.cells #[a, b, x, d] E (0, 0)) := by simp [World.setCell, Array.getElem?_modify, h]
 exact (set_only h x).trans (set_only h2 y)
variable (sd : List Tok -> Bool) (ts : List Tok)
def prs (a : Nat) : List Rule := parseF sd ts (ts.length - a) a
theorem parseF_prs {n a : Nat} (h : ts.length - a <= n) : parseF sd ts n a = prs sd ts a := parse_fuel n (ts.length - a) a h (Nat.le_refl _)
theorem prs_0 : parse sd ts = prs sd ts 0 := rfl
theorem prs_end {a : Nat} (h : ¬ a < ts.length) : prs sd ts a = [] := by
 unfold prs
 rw [show ts.length - a = 0 by omega]; rfl
theorem prs_sp {a : Nat} (h : a < ts.length) (h1 : (tk ts a).1 = 1) : prs sd ts a = prs sd ts (a + 1) := by
 rw [<- parseF_prs sd ts (n := ts.length - a - 1 + 1) (by omega), parseF, if_pos h, if_pos h1, parseF_prs sd ts (by omega)]
theorem endAt_bd {a : Nat} (h : a < ts.length) : a <= endAt ts a /\ endAt ts a <= ts.length := by
 unfold endAt
 have := fo_bd (stB (isAt ts a)) ts (show (if isAt ts a = true then a + 1 else a) <= ts.length by split <;> omega)
 split at this <;> rename_i hh <;> simp only [hh] at this ⊢ <;> first | omega | (simp only [Bool.false_eq_true, if_false, if_true] at this ⊢; omega)
theorem prs_rule {a : Nat} (h : a < ts.length) (h1 : (tk ts a).1 ≠ 1) (hr : isRule sd ts a) (hg : (Ru.g (ends ts) (endAt ts a)).toNat <= ts.length) : prs sd ts a =
 ((if isAt ts a = true then 2 else 1), trim (sub ts (if isAt ts a = true then a + 1 else a) (endAt ts a)), (blk sd ts (isAt ts a) (endAt ts a + 1) (Ru.g (ends ts) (endAt ts a)).toNat).1, (blk sd ts (isAt ts a) (endAt ts a + 1) (Ru.g (ends ts) (endAt ts a)).toNat).2) :: prs sd ts (sk (ends ts) (endAt ts a)) := by
 have hb := endAt_bd ts h
 have hs := sk_gt (ends ts) (endAt ts a)
 rw [<- parseF_prs sd ts (n := ts.length - a - 1 + 1) (by omega), parseF, if_pos h, if_neg h1, if_pos hr, parseF_prs sd ts (by omega), ruleAt, blockF_blk sd ts (by omega)]
theorem prs_no {a : Nat} (h : a < ts.length) (h1 : (tk ts a).1 ≠ 1) (hr : ¬ isRule sd ts a) : prs sd ts a = prs sd ts (sk (ends ts) (endAt ts a)) := by
 have hb := endAt_bd ts h
 have hs := sk_gt (ends ts) (endAt ts a)
 rw [<- parseF_prs sd ts (n := ts.length - a - 1 + 1) (by omega), parseF, if_pos h, if_neg h1, if_neg hr, parseF_prs sd ts (by omega)]
theorem slq_one {α : Type} {oE : Option TypeId} {sz : Nat} {Ra : World -> α -> List Value -> Prop} {W : World} {us : List α} {v : Value} (q : SlQ oE sz Ra W us [v]) : v.oneCell' = true := by
 obtain ⟨A, cap, e, _⟩ := q
 injection e with e
 subst e
 simp [Value.oneCell']
theorem int_one (n : Int) : (Value.int .i64 n).oneCell' = true := by simp [Value.oneCell']
theorem four_one {a b c d : Value} (h1 : a.oneCell' = true) (h2 : b.oneCell' = true) (h3 : c.oneCell' = true) (h4 : d.oneCell' = true) : ∀ y ∈ [a, b, c, d], y.oneCell' = true := fun y hy => by
 simp only [List.mem_cons, List.not_mem_nil, or_false] at hy
 rcases hy with hy | hy | hy | hy <;> rw [hy] <;> assumption
end Rl
theorem Tryz.infoRul : (Tryz.prog.info? 47).map (fun i => (i.zero, i.size, i.bytes)) = some (some (.agg #[.int .i64 0, .slice none 0 0, .slice none 0 0, .slice none 0 0]), 4, 80) := by kernel_rfl
theorem app_rul {ops : Array Oper} {rest : List Oper} {o : Oper} {a : Act} {Q : Exit -> Act -> World -> Prop} {w0 wr : World} {v : Value} {rs : List Rl.Rule} (hgd : o.guard = none) (s x : Operand)
 (ho : o.op = .call { callee := .builtin .append, args := #[s, x], argTypes := #[24, 24] }) (hs : a.eval s = v) (H : Rl.Gr 47 4 (Rl.RulQ true) w0 v rs wr) (r : Rl.Rule) (v1 v2 v3 : Value)
 (q1 : Rl.SlQ (some 61) 3 Rl.TokQ wr r.2.1 [v1]) (q2 : Rl.SlQ (some 42) 3 (Rl.DecQ true) wr r.2.2.1 [v2]) (q3 : Rl.SlQ (some 49) 2 (Rl.MarQ true) wr r.2.2.2 [v3]) (c : Nat) (E' : TypeId)
 (hx : a.eval x = .slice (some ⟨wr.heap.size, 0, none⟩) 1 c) (hm : rs.length <= 1000000)
 (h : ∀ v' w3, Rl.Gr 47 4 (Rl.RulQ true) w0 v' (rs ++ [r]) w3 -> wpList Tryz.prog ops Q rest (a.put o.dst v') w3) :
 wpList Tryz.prog ops Q (o :: rest) a (wr.alloc (.cells #[.int .i64 r.1, v1, v2, v3] E')) := by
 obtain ⟨i0, hi, hz0, hz1, hz2⟩ := info_parts Tryz.infoRul
 have e1 := Rl.slq_one q1
 have e2 := Rl.slq_one q2
 have e3 := Rl.slq_one q3
 exact Rl.Gr.app Rl.kT_rul hgd s x 24 ho i0 _ 80 Tryz.underlying24 hi hz0 hz1 hz2 rfl (by decide) hs H r [.int .i64 r.1, v1, v2, v3]
  ⟨_, _, _, _, rfl, rfl, q1, q2, q3⟩ c E' hx rfl (Rl.four_one (Rl.int_one _) e1 e2 e3) (by unfold maxLen; omega) (by omega) (fun v' w3 h1 _ _ => h v' w3 h1)
def ToldR (l : List Rl.Rule) (er : Int) (w : World) (e : Ending) (w' : World) : Prop :=
 ∃ (A : Option Addr) (cap : Nat), e = .returned (.tuple #[.slice A l.length cap, .int .i64 er]) /\ l.length <= cap /\ Rl.Cells 4 (Rl.RulQ true) w' A l /\ Rl.Tyd (some 47) w' A /\ Below w.heap.size w w'
theorem told_none {w w' : World} (er : Int) (hb : Below w.heap.size w w') : ToldR [] er w (.returned (.tuple #[.slice none 0 0, .int .i64 er])) w' :=
 ⟨none, 0, rfl, Nat.le_refl _, Rl.cells_nil, fun _ _ _ _ hA => by (cases hA), hb⟩
def ToldM (m : Rl.Margin) (w : World) (e : Ending) (w' : World) : Prop :=
 ∃ (A : Option Addr) (c : Nat), e = .returned (.agg #[.string m.1, .slice A m.2.length c]) /\ m.2.length <= c /\ Rl.Cells 3 (Rl.DecQ true) w' A m.2 /\ Rl.Tyd (some 42) w' A /\ (Rl.New w.heap.size A /\ ∀ b off, A = some ⟨b, off, none⟩ -> b < w'.heap.size) /\ Below w.heap.size w w'
abbrev zeroMar : Obj := .cells #[.string ⟨#[]⟩, .slice none 0 0] 49
theorem mar_cells {w : World} {k : Nat} {x0 x1 : Value} {E : TypeId} (h : w.heap[k]? = some (.cells #[x0, x1] E (0, 0))) :
 (w.cell? ⟨k, 0, none⟩ = some x0 /\ w.cell? ⟨k, 1, none⟩ = some x1) /\ (w.frozen? ⟨k, 0, none⟩ = false /\ w.frozen? ⟨k, 1, none⟩ = false) :=
 ⟨sh_cells h, by refine ⟨?_, ?_⟩ <;> simp [World.frozen?, h]⟩
theorem set_mar {w : World} {k : Nat} {a b : Value} {E : TypeId} (h : w.heap[k]? = some (.cells #[a, b] E (0, 0))) (x y : Value) :
 ((w.setCell ⟨k, 0, none⟩ x).setCell ⟨k, 1, none⟩ y).heap[k]? = some (.cells #[x, y] E (0, 0)) /\ Rl.Only E (some k) w ((w.setCell ⟨k, 0, none⟩ x).setCell ⟨k, 1, none⟩ y) /\ ((w.setCell ⟨k, 0, none⟩ x).setCell ⟨k, 1, none⟩ y).heap.size = w.heap.size := by
 have h2 : (w.setCell ⟨k, 0, none⟩ x).heap[k]? = some (.cells #[x, b] E (0, 0)) := by simp [World.setCell, Array.getElem?_modify, h]
 refine ⟨by simp [World.setCell, Array.getElem?_modify, h], (Rl.set_only h x).trans (Rl.set_only h2 y), by simp [World.setCell]⟩
theorem cells_only {w w1 : World} {A : Option Addr} {ds : List Rl.Decl} {E : TypeId} {g : Option Nat} (hne : 42 ≠ E) (hne2 : 61 ≠ E) (hC : Rl.Cells 3 (Rl.DecQ true) w A ds) (hT : Rl.Tyd (some 42) w A) (ho : Rl.Only E g w w1) :
 Rl.Cells 3 (Rl.DecQ true) w1 A ds /\ Rl.Tyd (some 42) w1 A := by
 have h : Rl.SlQ (some 42) 3 (Rl.DecQ true) w ds [.slice A ds.length ds.length] := ⟨A, ds.length, rfl, Nat.le_refl _, hC, hT⟩
 obtain ⟨A', c, e, _, h1, h2⟩ := Rl.kT_sl hne (Rl.kT_dec2 hne2) g w w1 ds _ h ho
 injection e with e
 injection e with e
 subst e
 exact ⟨h1, h2⟩
theorem smargin_any (ts : List Tk.Tok) (hF : Pr.FairB ts) (A C : Option Addr) (ca cc : Nat) (a e : Nat) (ha : a < ts.length) (r : List Rl.Decl × List Rl.Margin) (w : World) (h : Sh ts A ca C w)
 (hI : ∀ W, Below w.heap.size w W -> Calls Tryz.prog 104 #[shV A ts.length ca C (Ns.ends ts).length cc, .int .i64 e, .bool false] W (ToldB r W)) :
 Calls Tryz.prog 168 #[shV A ts.length ca C (Ns.ends ts).length cc, .int .i64 a, .int .i64 e] w (ToldM (Ru.lowS (Tk.tk ts a).2.1, r.1) w) := by
 obtain ⟨W0, hW⟩ : ∃ W0, W0 = (w.alloc (.cells #[.slice A ts.length ca, .slice C (Ns.ends ts).length cc] 58)).alloc zeroMar := ⟨_, rfl⟩
 obtain ⟨hb0, k0, k1, hs1⟩ := two_new w (.cells #[.slice A ts.length ca, .slice C (Ns.ends ts).length cc] 58) zeroMar
 rw [<- hW] at hb0 k0 k1 hs1
 obtain ⟨p0, p1⟩ := sh_cells k0
 have hs0 : w.heap.size < W0.heap.size := by omega
 have HB0 := Lib.hid hb0
 have HK0 := Lib.hid k1
 have HW := Lib.hid hW.symm
 have CN : Hid (∀ W, Below W0.heap.size W0 W -> Calls Tryz.prog 101 #[.agg #[.slice A ts.length ca, .slice C (Ns.ends ts).length cc], .int .i64 a] W (Sg (Ru.lowS (Tk.tk ts a).2.1) W)) := Lib.hid fun W hb => sname_any ts hF A C ca cc a ha W ((h.next hb0).next hb)
 have CB : Hid (Calls Tryz.prog 104 #[.agg #[.slice A ts.length ca, .slice C (Ns.ends ts).length cc], .int .i64 e, .bool false] W0 (ToldB r W0)) := Lib.hid (hI W0 hb0)
 have hwW : w.heap.size <= W0.heap.size := by omega
 clear hb0 k0 k1 hW h hF hI
 obtain ⟨ds, ms⟩ := r
 unfold shV
 generalize Ru.lowS (Tk.tk ts a).2.1 = nm at *
 go_enter Tryz.func168, Tryz.ntmps168
 go_upto_region 1 with fail
 rw [HW.out]
 clear HW
 go_wp2_with (first | (go_at_call 104; ((with_reducible refine (CB.out).mono ?_); rintro e1 w1 ⟨A1, c1, A2, c2, rfl, hc1, hc2, C1, Y1, N1, _, _, b1⟩; have HB1 := Lib.hid b1; have HC1 := Lib.hid C1; have HY1 := Lib.hid Y1; have HN1 := Lib.hid N1; have s0 := (b1.cell (p := ⟨w.heap.size, 0, none⟩) hs0).trans p0; have s1 := (b1.cell (p := ⟨w.heap.size, 1, none⟩) hs0).trans p1; clear b1 C1 Y1 N1)) | (go_at_call 101; ((with_reducible refine (CN.out _ HB1.out).mono ?_); rintro e2 w2 ⟨rfl, b2⟩; have HB2 := Lib.hid (below_next HB1.out b2); have HC2 := Lib.hid (Rl.cells_next (Rl.keeps_dec true) HC1.out b2); have HY2 := Lib.hid (Rl.tyd_next HY1.out b2); have HZ2 := Lib.hid b2.size; have HK2 := Lib.hid (below_block HB2.out HK0.out); obtain ⟨⟨d0, d1⟩, f0, f1⟩ := mar_cells HK2.out; clear b2)))
 obtain ⟨hk, ho, hz⟩ := set_mar HK2.out (.string nm) (.slice A1 ds.length c1)
 have hbf : Below w.heap.size w ((w2.setCell ⟨w.heap.size + 1, 0, none⟩ (.string nm)).setCell ⟨w.heap.size + 1, 1, none⟩ (.slice A1 ds.length c1)) := ((below_next HB0.out HB2.out).setCell (Nat.le_succ _) _).setCell (Nat.le_succ _) _
 generalize (w2.setCell ⟨w.heap.size + 1, 0, none⟩ (.string nm)).setCell ⟨w.heap.size + 1, 1, none⟩ (.slice A1 ds.length c1) = Wf at hk ho hz hbf ⊢
 obtain ⟨⟨z0, z1⟩, _⟩ := mar_cells hk
 obtain ⟨hC, hY⟩ := cells_only (by decide) (by decide) HC2.out HY2.out ho
 exact bodyPost_ret (v := .agg #[.string nm, .slice A1 ds.length c1]) (by simp [results, Tryz.results168, go_sem, z0, z1]) rfl ⟨A1, c1, rfl, hc1, hC, hY, ⟨fun b off hA => Nat.le_trans hwW (HN1.out.1 b off hA), fun b off hA => by rw [hz]; exact Nat.lt_of_lt_of_le (HN1.out.2 b off hA) HZ2.out⟩, hbf⟩
end Go.Proofs.YtkcabpjfgbghjaaGreatDoor
