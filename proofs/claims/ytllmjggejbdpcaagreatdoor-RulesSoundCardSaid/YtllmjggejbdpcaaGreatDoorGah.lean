/-
  The walks of nest's find and Find, with the closures of package rules.
-/
import Derived.Test.YtllmjggejbdpcaaGreatDoorGag
import Derived.Test.YtllmjggejbdpcaaGreatDoorGaf
import Derived.ScopeJumps
import Derived.LoopTactic
import Derived.Defers
import Derived.Recover
import Derived.Laws.Pointers
import Derived.Test.YtllmjggejbdpcaaGreatDoorGad
import Derived.Deep.QuietTactic
import Derived.BigQuiet
import Derived.Lib.Hide
import Derived.Deep.DeepCutAuto
import Derived.Deep.Cut
import Derived.Deep.CutRange
import Derived.Deep.RegionHeld3
import Derived.Deep.RegionWith
import Derived.IntWalk
import Derived.Outline
import Derived.Test.YtllmjggejbdpcaaGreatDoorGae
set_option maxHeartbeats 16000000
set_option maxRecDepth 100000
namespace Go.Proofs.YtllmjggejbdpcaaGreatDoor
open Go.RowKit
def FindJ (ts : List Tk.Tok) (S C : Value) (fr tz : Nat) (p : Tk.Tok -> Bool) (is : Value) (w : World) (a' : Act) (wr : World) : Prop :=
 ∃ (x : Nat) (u5 u6 u7 u8 u9 u10 u11 u13 u14 u15 u16 u17 u18 u19 u20 u21 u22 u23 u24 u25 u26 u27 u28 u29 u30 u31 : Value), a' = { tmps := #[S, C, .int .i64 fr, .int .i64 tz, is, u5, u6, u7, u8, u9, u10, u11, .int .i64 x, u13, u14, u15, u16, u17, u18, u19, u20, u21, u22, u23, u24, u25, u26, u27, u28, u29, u30, u31], defers := [] } /\ x <= ts.length /\ Hid (Ns.fnd (fun x => p (Tk.tk ts x)) (Ns.plc (Ns.ends ts) tz fr) = Ns.fnd (fun x => p (Tk.tk ts x)) (Ns.plc (Ns.ends ts) tz x)) /\ Hid (Below w.heap.size w wr)
def atOf (a : Act) : Nat := (RowKit.intOf (a.tmps.getD 12 undef)).toNat
def Fd (n : Int) (w : World) (e : Ending) (w' : World) : Prop := e = .returned (.tuple #[.int .i64 n, .bool true]) /\ Below w.heap.size w w'
theorem catch_idle (p : Addr) (w : World) :
 CallsD Tryz.prog 162 #[.pointer (some p)] .returning w fun e u' w' => e = .returned (.tuple #[]) /\ u' = .returning /\ w' = w := by
 refine callsD_of_wpS Tryz.func162 rfl fun c₀ cs hu => ?_
 apply wpS_seq
 apply wpS_region
 simp [wpOpsS, go_sem, recoverD, hu, Tryz.ntmps162, Exit.thenS]
 refine wpS_cond (t := false) (by simp [Act.eval, Array.replicate]) ?_
 simp only [Bool.false_eq_true, if_false]
 refine wpS_of_wp (wp_skip ?_)
 cases c₀
 simp_all [bodyPostS, results, Tryz.results162]
theorem findE_any (ts : List Tk.Tok) (hm : ts.length <= 20000) (A C : Option Addr) (ca cc : Nat) (fr tz : Nat) (hfr : fr <= ts.length) (htz : tz <= ts.length) (kd : Int) (bk : Nat) (w : World) (hl : bk < w.heap.size) (hk : w.cell? ⟨bk, 0, none⟩ = some (.int .i64 kd)) (h : Ts w w.heap.size A ts) (h2 : Bs w w.heap.size .i64 C (Ns.ends ts)) :
 Calls Tryz.prog 164 #[.slice A ts.length ca, .slice C (Ns.ends ts).length cc, .int .i64 fr, .int .i64 tz, .func (Fn.func 129) #[] #[.pointer (some ⟨bk, 0, none⟩)]] w (Fd (Ns.fnd (fun x => Rl.stB (decide (kd = 4)) (Tk.tk ts x)) (Ns.plc (Ns.ends ts) tz fr)) w) := by
 have hel := Ns.ends_len ts
 have HF : Hid (∀ (x : Nat) (W : World), x < ts.length -> Below w.heap.size w W -> Calls Tryz.prog 201 #[.slice A ts.length ca, .slice C (Ns.ends ts).length cc, .int .i64 x] W (Bo true W)) := Lib.hid fun x W hx hb => fits_any ts hm A C ca cc x hx W (h.next hb) (h2.next hb)
 have HI : Hid (∀ (x : Nat) (W : World), Below w.heap.size w W -> Calls Tryz.prog 129 #[.agg #[.int .i64 (Tk.tk ts x).1, .string (Tk.tk ts x).2.1, .int .i64 (Tk.tk ts x).2.2], .pointer (some ⟨bk, 0, none⟩)] W (Bo (Rl.stB (decide (kd = 4)) (Tk.tk ts x)) W)) := Lib.hid fun x W hb => ending1_any _ bk kd W (Nat.lt_of_lt_of_le hl hb.size) (cell_kept hb hl hk)
 have HK : Hid (∀ (x : Nat) (W : World), x < ts.length -> Below w.heap.size w W -> Calls Tryz.prog 55 #[.slice C (Ns.ends ts).length cc, .int .i64 x] W (Nu ((Ns.sk (Ns.ends ts) x : Nat) : Int) W)) := Lib.hid fun x W hx hb => by
  rw [Ns.sk_eq]; exact skipC _ (Ns.ends_fit (by omega)) (Ns.ends_lead ts) C cc x (by omega) W (h2.next hb)
 have H := Lib.hid h
 have HL : Hid (∀ x, x < ts.length -> Ns.sk (Ns.ends ts) x <= ts.length) := Lib.hid fun x hx => by
  have := Ns.sk_le (es := Ns.ends ts) (a := x) (by omega)
  omega
 clear h h2 hl hk hel
 generalize Rl.stB (decide (kd = 4)) = p at *
 go_enter Tryz.func164, Tryz.ntmps164
 go_wp2_with fail
 refine wp_scope_jumps 0 (fun a' wr => FindJ ts (.slice A ts.length ca) (.slice C (Ns.ends ts).length cc) fr tz p (.func (Fn.func 129) #[] #[.pointer (some ⟨bk, 0, none⟩)]) w a' wr) (fun a' _ => tz - atOf a') rfl ?_ ?_
 ·go_wp2_with fail
  try go_step3
  have HN : Hid (Ns.fnd (fun x => p (Tk.tk ts x)) (Ns.plc (Ns.ends ts) tz fr) = Ns.fnd (fun x => p (Tk.tk ts x)) (Ns.plc (Ns.ends ts) tz fr)) := Lib.hid rfl
  have HB := Lib.hid (Below.refl w.heap.size w)
  by_cases hlt : fr < tz
  ·have hxl : fr < ts.length := by omega
   obtain ⟨bb, off, rfl, hbb, hp⟩ := H.out.next HB.out (by omega)
   obtain ⟨p0, p1, p2⟩ := hp fr hxl
   have CF := Lib.hid (HF.out fr _ hxl HB.out)
   have CI := Lib.hid (HI.out fr)
   have hsl := HL.out fr hxl
   have hgt := Ns.sk_gt (Ns.ends ts) fr
   have d1 : decide (tz <= fr) = false := decide_eq_false (by omega)
   clear hp HF HI HL
   by_cases hy : p (Tk.tk ts fr) = true
   ·have HV : Hid (Ns.fnd (fun x => p (Tk.tk ts x)) (Ns.plc (Ns.ends ts) tz fr) = fr) := Lib.hid (by rw [HN.out, Ns.plc_on hlt, Ns.fnd, if_pos hy])
    rw [hy] at CI
    clear hy HN HK hsl hgt
    generalize Tk.tk ts fr = u at *
    go_wp2_with (first | (go_at_call 201; ((with_reducible refine (CF.out).mono ?_); rintro e w1 ⟨rfl, b1⟩; have HB1 := Lib.hid (below_next HB.out b1); have r0 := (b1.cell (p := ⟨bb, off + fr * 3, none⟩) hbb).trans p0; have r1 := (b1.cell (p := ⟨bb, off + fr * 3 + 1, none⟩) hbb).trans p1; have r2 := (b1.cell (p := ⟨bb, off + fr * 3 + 2, none⟩) hbb).trans p2; clear b1)) | (go_at_call 129; ((with_reducible refine (CI.out _ HB1.out).mono ?_); rintro e w2 ⟨rfl, b2⟩; have HB2 := Lib.hid (below_next HB1.out b2); clear b2 r0 r1 r2)))
    simp only [Exit.jump]
    go_ret2
    exact ⟨by rw [HV.out]; rfl, HB2.out⟩
   ·have HV : Hid (Ns.fnd (fun x => p (Tk.tk ts x)) (Ns.plc (Ns.ends ts) tz fr) = Ns.fnd (fun x => p (Tk.tk ts x)) (Ns.plc (Ns.ends ts) tz (Ns.sk (Ns.ends ts) fr))) := Lib.hid (by rw [HN.out, Ns.plc_on hlt, Ns.fnd, if_neg hy])
    have CK := Lib.hid (fun W hb => HK.out fr W hxl hb)
    rw [Bool.not_eq_true] at hy
    rw [hy] at CI
    clear hy HN HK
    generalize Tk.tk ts fr = u at *
    go_wp2_with (first | (go_at_call 201; ((with_reducible refine (CF.out).mono ?_); rintro e w1 ⟨rfl, b1⟩; have HB1 := Lib.hid (below_next HB.out b1); have r0 := (b1.cell (p := ⟨bb, off + fr * 3, none⟩) hbb).trans p0; have r1 := (b1.cell (p := ⟨bb, off + fr * 3 + 1, none⟩) hbb).trans p1; have r2 := (b1.cell (p := ⟨bb, off + fr * 3 + 2, none⟩) hbb).trans p2; clear b1)) | (go_at_call 129; ((with_reducible refine (CI.out _ HB1.out).mono ?_); rintro e w2 ⟨rfl, b2⟩; have HB2 := Lib.hid (below_next HB1.out b2); clear b2 r0 r1 r2)) | (go_at_call 55; ((with_reducible refine (CK.out _ HB2.out).mono ?_); rintro e w3 ⟨rfl, b3⟩; have HB3 := Lib.hid (below_next HB2.out b3); clear b3)))
    go_step3
    exact ⟨rfl, ⟨_, _, _, _, _, _, _, _, _, _, _, _, _, _, _, _, _, _, _, _, _, _, _, _, _, _, _, rfl, hsl, HV, HB3⟩⟩
  ·have HV : Hid (Ns.fnd (fun x => p (Tk.tk ts x)) (Ns.plc (Ns.ends ts) tz fr) = -1) := Lib.hid (by rw [HN.out, Ns.plc_end hlt]; rfl)
   have d1 : decide (tz <= fr) = true := decide_eq_true (by omega)
   clear HF HI HL HN HK H
   go_wp2_with fail
   simp only [Exit.jump]
   go_ret2
   exact ⟨by rw [HV.out]; rfl, HB.out⟩
 ·rintro a' wr ⟨x, u5, u6, u7, u8, u9, u10, u11, u13, u14, u15, u16, u17, u18, u19, u20, u21, u22, u23, u24, u25, u26, u27, u28, u29, u30, u31, rfl, hx, HN, HB⟩
  by_cases hlt : x < tz
  ·have hxl : x < ts.length := by omega
   obtain ⟨bb, off, rfl, hbb, hp⟩ := H.out.next HB.out (by omega)
   obtain ⟨p0, p1, p2⟩ := hp x hxl
   have CF := Lib.hid (HF.out x _ hxl HB.out)
   have CI := Lib.hid (HI.out x)
   have hsl := HL.out x hxl
   have hgt := Ns.sk_gt (Ns.ends ts) x
   have d1 : decide (tz <= x) = false := decide_eq_false (by omega)
   clear hp HF HI HL
   by_cases hy : p (Tk.tk ts x) = true
   ·have HV : Hid (Ns.fnd (fun x => p (Tk.tk ts x)) (Ns.plc (Ns.ends ts) tz fr) = x) := Lib.hid (by rw [HN.out, Ns.plc_on hlt, Ns.fnd, if_pos hy])
    rw [hy] at CI
    clear hy HN HK hsl hgt
    generalize Tk.tk ts x = u at *
    go_wp2_with (first | (go_at_call 201; ((with_reducible refine (CF.out).mono ?_); rintro e w1 ⟨rfl, b1⟩; have HB1 := Lib.hid (below_next HB.out b1); have r0 := (b1.cell (p := ⟨bb, off + x * 3, none⟩) hbb).trans p0; have r1 := (b1.cell (p := ⟨bb, off + x * 3 + 1, none⟩) hbb).trans p1; have r2 := (b1.cell (p := ⟨bb, off + x * 3 + 2, none⟩) hbb).trans p2; clear b1)) | (go_at_call 129; ((with_reducible refine (CI.out _ HB1.out).mono ?_); rintro e w2 ⟨rfl, b2⟩; have HB2 := Lib.hid (below_next HB1.out b2); clear b2 r0 r1 r2)))
    simp only [Exit.jump]
    go_ret2
    exact ⟨by rw [HV.out]; rfl, HB2.out⟩
   ·have HV : Hid (Ns.fnd (fun x => p (Tk.tk ts x)) (Ns.plc (Ns.ends ts) tz fr) = Ns.fnd (fun x => p (Tk.tk ts x)) (Ns.plc (Ns.ends ts) tz (Ns.sk (Ns.ends ts) x))) := Lib.hid (by rw [HN.out, Ns.plc_on hlt, Ns.fnd, if_neg hy])
    have CK := Lib.hid (fun W hb => HK.out x W hxl hb)
    rw [Bool.not_eq_true] at hy
    rw [hy] at CI
    clear hy HN HK
    generalize Tk.tk ts x = u at *
    go_wp2_with (first | (go_at_call 201; ((with_reducible refine (CF.out).mono ?_); rintro e w1 ⟨rfl, b1⟩; have HB1 := Lib.hid (below_next HB.out b1); have r0 := (b1.cell (p := ⟨bb, off + x * 3, none⟩) hbb).trans p0; have r1 := (b1.cell (p := ⟨bb, off + x * 3 + 1, none⟩) hbb).trans p1; have r2 := (b1.cell (p := ⟨bb, off + x * 3 + 2, none⟩) hbb).trans p2; clear b1)) | (go_at_call 129; ((with_reducible refine (CI.out _ HB1.out).mono ?_); rintro e w2 ⟨rfl, b2⟩; have HB2 := Lib.hid (below_next HB1.out b2); clear b2 r0 r1 r2)) | (go_at_call 55; ((with_reducible refine (CK.out _ HB2.out).mono ?_); rintro e w3 ⟨rfl, b3⟩; have HB3 := Lib.hid (below_next HB2.out b3); clear b3)))
    go_step3
    exact ⟨rfl, ⟨_, _, _, _, _, _, _, _, _, _, _, _, _, _, _, _, _, _, _, _, _, _, _, _, _, _, _, rfl, hsl, HV, HB3⟩, by unfold atOf; simp [RowKit.intOf]; omega⟩
  ·have HV : Hid (Ns.fnd (fun x => p (Tk.tk ts x)) (Ns.plc (Ns.ends ts) tz fr) = -1) := Lib.hid (by rw [HN.out, Ns.plc_end hlt]; rfl)
   have d1 : decide (tz <= x) = true := decide_eq_true (by omega)
   clear HF HI HL HN HK H
   go_wp2_with fail
   simp only [Exit.jump]
   go_ret2
   exact ⟨by rw [HV.out]; rfl, HB.out⟩
theorem FindE_any (ts : List Tk.Tok) (hm : ts.length <= 20000) (A C : Option Addr) (ca cc : Nat) (fr tz : Nat) (hft : fr <= tz) (htz : tz <= ts.length) (kd : Int) (bk : Nat) (w : World) (hl : bk < w.heap.size) (hk : w.cell? ⟨bk, 0, none⟩ = some (.int .i64 kd)) (h : Ts w w.heap.size A ts) (h2 : Bs w w.heap.size .i64 C (Ns.ends ts)) :
 Calls Tryz.prog 98 #[.slice A ts.length ca, .slice C (Ns.ends ts).length cc, .int .i64 fr, .int .i64 tz, .func (Fn.func 129) #[] #[.pointer (some ⟨bk, 0, none⟩)]] w (Nu (Ns.fnd (fun x => Rl.stB (decide (kd = 4)) (Tk.tk ts x)) (Ns.plc (Ns.ends ts) tz fr)) w) := by
 have hmf : ∀ (fn : Fn) (first cap : Array Value) (w : World), (Instr.makeFunc fn first cap).run Tryz.prog w = .ok (.func fn first cap) w := fun _ _ _ _ => rfl
 obtain ⟨W0, hW⟩ : ∃ W0, W0 = w.alloc (.cells #[.int .i64 0] 3) := ⟨_, rfl⟩
 have hb0 : Below w.heap.size w W0 := by rw [hW]; exact (Below.refl _ _).alloc (Nat.le_refl _) _
 have k0 : W0.heap[w.heap.size]? = some (.cells #[.int .i64 0] 3 (0, 0)) := by rw [hW]; exact heap_alloc_new w _
 have hel := Ns.ends_len ts
 have hok : Ns.okp ts fr tz := ⟨by omega, by omega, by omega⟩
 have CI : Hid (Calls Tryz.prog 163 #[.slice A ts.length ca, .int .i64 fr, .int .i64 tz] W0 fun e w' => e = .returned (.bool true) /\ W0 = w') := Lib.hid (by have := nwithin_any ts A ca fr tz W0; rwa [decide_eq_true hok] at this)
 have HB0 := Lib.hid hb0
 have HW := Lib.hid hW.symm
 rw [hel]
 have CF := findE_any ts hm A C ca cc fr tz (by omega) htz kd bk W0 (Nat.lt_of_lt_of_le hl hb0.size) (cell_kept hb0 hl hk) (h.next hb0) (h2.next hb0)
 rw [hel] at CF
 have CF2 := Lib.hid CF
 clear CF
 have HK0 := Lib.hid k0
 have hz0 : w.heap.size < W0.heap.size := by rw [hW]; simp
 clear hb0 k0 hW h h2 hl hk hel hok
 generalize Ns.fnd (fun x => Rl.stB (decide (kd = 4)) (Tk.tk ts x)) (Ns.plc (Ns.ends ts) tz fr) = n at *
 go_enter_defers Tryz.func98, Tryz.ntmps98
 go_upto_region 1 with fail
 rw [HW.out]
 clear HW
 go_wp2_with (first | (go_at_call 163; ((with_reducible refine (CI.out).mono ?_); rintro e w1 ⟨rfl, rfl⟩)) | (go_at_call 164; ((with_reducible refine (CF2.out).mono ?_); rintro e w1 ⟨rfl, b1⟩; have hk1 := below_block b1 HK0.out; obtain ⟨c1, z1⟩ : w1.cell? ⟨w.heap.size, 0, none⟩ = some (.int .i64 0) /\ w1.frozen? ⟨w.heap.size, 0, none⟩ = false := ⟨by simp [World.cell?, hk1], by simp [World.frozen?, hk1]⟩; have HB1 := Lib.hid (below_next HB0.out b1); clear b1 hk1)))
 refine leaves_cons (f := 162) (args := #[.pointer (some ⟨w.heap.size, 0, none⟩)]) (by simp) (by simp [go_sem]) ?_
 refine (catch_idle ⟨w.heap.size, 0, none⟩ _).mono ?_
 rintro e u' w'' ⟨rfl, rfl, rfl⟩
 have e2 : ((w1.setCell ⟨w.heap.size, 0, none⟩ (.int .i64 n)).setCell ⟨w.heap.size, 0, none⟩ (.int .i64 n)).cell? ⟨w.heap.size, 0, none⟩ = some (.int .i64 n) := World.cell?_setCell_same _ _ _ (World.cell?_setCell_same _ _ _ c1)
 refine ⟨.int .i64 n, ?_, rfl, (HB1.out.setCell (Nat.le_refl _) _).setCell (Nat.le_refl _) _⟩
 generalize (w1.setCell ⟨w.heap.size, 0, none⟩ (.int .i64 n)).setCell ⟨w.heap.size, 0, none⟩ (.int .i64 n) = W at *
 simp [results, Tryz.results98, go_sem, e2]
theorem findS_any (ts : List Tk.Tok) (hm : ts.length <= 20000) (A C : Option Addr) (ca cc : Nat) (fr tz : Nat) (hfr : fr <= ts.length) (htz : tz <= ts.length)  (w : World) (h : Ts w w.heap.size A ts) (h2 : Bs w w.heap.size .i64 C (Ns.ends ts)) :
 Calls Tryz.prog 164 #[.slice A ts.length ca, .slice C (Ns.ends ts).length cc, .int .i64 fr, .int .i64 tz, .func (Fn.func 127) #[] #[]] w (Fd (Ns.fnd (fun x => Rl.seB (Tk.tk ts x)) (Ns.plc (Ns.ends ts) tz fr)) w) := by
 have hel := Ns.ends_len ts
 have HF : Hid (∀ (x : Nat) (W : World), x < ts.length -> Below w.heap.size w W -> Calls Tryz.prog 201 #[.slice A ts.length ca, .slice C (Ns.ends ts).length cc, .int .i64 x] W (Bo true W)) := Lib.hid fun x W hx hb => fits_any ts hm A C ca cc x hx W (h.next hb) (h2.next hb)
 have HI : Hid (∀ (x : Nat) (W : World), Below w.heap.size w W -> Calls Tryz.prog 127 #[.agg #[.int .i64 (Tk.tk ts x).1, .string (Tk.tk ts x).2.1, .int .i64 (Tk.tk ts x).2.2]] W (Bo (Rl.seB (Tk.tk ts x)) W)) := Lib.hid fun x W hb => isSemi_any _ W
 have HK : Hid (∀ (x : Nat) (W : World), x < ts.length -> Below w.heap.size w W -> Calls Tryz.prog 55 #[.slice C (Ns.ends ts).length cc, .int .i64 x] W (Nu ((Ns.sk (Ns.ends ts) x : Nat) : Int) W)) := Lib.hid fun x W hx hb => by
  rw [Ns.sk_eq]; exact skipC _ (Ns.ends_fit (by omega)) (Ns.ends_lead ts) C cc x (by omega) W (h2.next hb)
 have H := Lib.hid h
 have HL : Hid (∀ x, x < ts.length -> Ns.sk (Ns.ends ts) x <= ts.length) := Lib.hid fun x hx => by
  have := Ns.sk_le (es := Ns.ends ts) (a := x) (by omega)
  omega
 clear h h2  hel
 generalize Rl.seB = p at *
 go_enter Tryz.func164, Tryz.ntmps164
 go_wp2_with fail
 refine wp_scope_jumps 0 (fun a' wr => FindJ ts (.slice A ts.length ca) (.slice C (Ns.ends ts).length cc) fr tz p (.func (Fn.func 127) #[] #[]) w a' wr) (fun a' _ => tz - atOf a') rfl ?_ ?_
 ·go_wp2_with fail
  try go_step3
  have HN : Hid (Ns.fnd (fun x => p (Tk.tk ts x)) (Ns.plc (Ns.ends ts) tz fr) = Ns.fnd (fun x => p (Tk.tk ts x)) (Ns.plc (Ns.ends ts) tz fr)) := Lib.hid rfl
  have HB := Lib.hid (Below.refl w.heap.size w)
  by_cases hlt : fr < tz
  ·have hxl : fr < ts.length := by omega
   obtain ⟨bb, off, rfl, hbb, hp⟩ := H.out.next HB.out (by omega)
   obtain ⟨p0, p1, p2⟩ := hp fr hxl
   have CF := Lib.hid (HF.out fr _ hxl HB.out)
   have CI := Lib.hid (HI.out fr)
   have hsl := HL.out fr hxl
   have hgt := Ns.sk_gt (Ns.ends ts) fr
   have d1 : decide (tz <= fr) = false := decide_eq_false (by omega)
   clear hp HF HI HL
   by_cases hy : p (Tk.tk ts fr) = true
   ·have HV : Hid (Ns.fnd (fun x => p (Tk.tk ts x)) (Ns.plc (Ns.ends ts) tz fr) = fr) := Lib.hid (by rw [HN.out, Ns.plc_on hlt, Ns.fnd, if_pos hy])
    rw [hy] at CI
    clear hy HN HK hsl hgt
    generalize Tk.tk ts fr = u at *
    go_wp2_with (first | (go_at_call 201; ((with_reducible refine (CF.out).mono ?_); rintro e w1 ⟨rfl, b1⟩; have HB1 := Lib.hid (below_next HB.out b1); have r0 := (b1.cell (p := ⟨bb, off + fr * 3, none⟩) hbb).trans p0; have r1 := (b1.cell (p := ⟨bb, off + fr * 3 + 1, none⟩) hbb).trans p1; have r2 := (b1.cell (p := ⟨bb, off + fr * 3 + 2, none⟩) hbb).trans p2; clear b1)) | (go_at_call 127; ((with_reducible refine (CI.out _ HB1.out).mono ?_); rintro e w2 ⟨rfl, b2⟩; have HB2 := Lib.hid (below_next HB1.out b2); clear b2 r0 r1 r2)))
    simp only [Exit.jump]
    go_ret2
    exact ⟨by rw [HV.out]; rfl, HB2.out⟩
   ·have HV : Hid (Ns.fnd (fun x => p (Tk.tk ts x)) (Ns.plc (Ns.ends ts) tz fr) = Ns.fnd (fun x => p (Tk.tk ts x)) (Ns.plc (Ns.ends ts) tz (Ns.sk (Ns.ends ts) fr))) := Lib.hid (by rw [HN.out, Ns.plc_on hlt, Ns.fnd, if_neg hy])
    have CK := Lib.hid (fun W hb => HK.out fr W hxl hb)
    rw [Bool.not_eq_true] at hy
    rw [hy] at CI
    clear hy HN HK
    generalize Tk.tk ts fr = u at *
    go_wp2_with (first | (go_at_call 201; ((with_reducible refine (CF.out).mono ?_); rintro e w1 ⟨rfl, b1⟩; have HB1 := Lib.hid (below_next HB.out b1); have r0 := (b1.cell (p := ⟨bb, off + fr * 3, none⟩) hbb).trans p0; have r1 := (b1.cell (p := ⟨bb, off + fr * 3 + 1, none⟩) hbb).trans p1; have r2 := (b1.cell (p := ⟨bb, off + fr * 3 + 2, none⟩) hbb).trans p2; clear b1)) | (go_at_call 127; ((with_reducible refine (CI.out _ HB1.out).mono ?_); rintro e w2 ⟨rfl, b2⟩; have HB2 := Lib.hid (below_next HB1.out b2); clear b2 r0 r1 r2)) | (go_at_call 55; ((with_reducible refine (CK.out _ HB2.out).mono ?_); rintro e w3 ⟨rfl, b3⟩; have HB3 := Lib.hid (below_next HB2.out b3); clear b3)))
    go_step3
    exact ⟨rfl, ⟨_, _, _, _, _, _, _, _, _, _, _, _, _, _, _, _, _, _, _, _, _, _, _, _, _, _, _, rfl, hsl, HV, HB3⟩⟩
  ·have HV : Hid (Ns.fnd (fun x => p (Tk.tk ts x)) (Ns.plc (Ns.ends ts) tz fr) = -1) := Lib.hid (by rw [HN.out, Ns.plc_end hlt]; rfl)
   have d1 : decide (tz <= fr) = true := decide_eq_true (by omega)
   clear HF HI HL HN HK H
   go_wp2_with fail
   simp only [Exit.jump]
   go_ret2
   exact ⟨by rw [HV.out]; rfl, HB.out⟩
 ·rintro a' wr ⟨x, u5, u6, u7, u8, u9, u10, u11, u13, u14, u15, u16, u17, u18, u19, u20, u21, u22, u23, u24, u25, u26, u27, u28, u29, u30, u31, rfl, hx, HN, HB⟩
  by_cases hlt : x < tz
  ·have hxl : x < ts.length := by omega
   obtain ⟨bb, off, rfl, hbb, hp⟩ := H.out.next HB.out (by omega)
   obtain ⟨p0, p1, p2⟩ := hp x hxl
   have CF := Lib.hid (HF.out x _ hxl HB.out)
   have CI := Lib.hid (HI.out x)
   have hsl := HL.out x hxl
   have hgt := Ns.sk_gt (Ns.ends ts) x
   have d1 : decide (tz <= x) = false := decide_eq_false (by omega)
   clear hp HF HI HL
   by_cases hy : p (Tk.tk ts x) = true
   ·have HV : Hid (Ns.fnd (fun x => p (Tk.tk ts x)) (Ns.plc (Ns.ends ts) tz fr) = x) := Lib.hid (by rw [HN.out, Ns.plc_on hlt, Ns.fnd, if_pos hy])
    rw [hy] at CI
    clear hy HN HK hsl hgt
    generalize Tk.tk ts x = u at *
    go_wp2_with (first | (go_at_call 201; ((with_reducible refine (CF.out).mono ?_); rintro e w1 ⟨rfl, b1⟩; have HB1 := Lib.hid (below_next HB.out b1); have r0 := (b1.cell (p := ⟨bb, off + x * 3, none⟩) hbb).trans p0; have r1 := (b1.cell (p := ⟨bb, off + x * 3 + 1, none⟩) hbb).trans p1; have r2 := (b1.cell (p := ⟨bb, off + x * 3 + 2, none⟩) hbb).trans p2; clear b1)) | (go_at_call 127; ((with_reducible refine (CI.out _ HB1.out).mono ?_); rintro e w2 ⟨rfl, b2⟩; have HB2 := Lib.hid (below_next HB1.out b2); clear b2 r0 r1 r2)))
    simp only [Exit.jump]
    go_ret2
    exact ⟨by rw [HV.out]; rfl, HB2.out⟩
   ·have HV : Hid (Ns.fnd (fun x => p (Tk.tk ts x)) (Ns.plc (Ns.ends ts) tz fr) = Ns.fnd (fun x => p (Tk.tk ts x)) (Ns.plc (Ns.ends ts) tz (Ns.sk (Ns.ends ts) x))) := Lib.hid (by rw [HN.out, Ns.plc_on hlt, Ns.fnd, if_neg hy])
    have CK := Lib.hid (fun W hb => HK.out x W hxl hb)
    rw [Bool.not_eq_true] at hy
    rw [hy] at CI
    clear hy HN HK
    generalize Tk.tk ts x = u at *
    go_wp2_with (first | (go_at_call 201; ((with_reducible refine (CF.out).mono ?_); rintro e w1 ⟨rfl, b1⟩; have HB1 := Lib.hid (below_next HB.out b1); have r0 := (b1.cell (p := ⟨bb, off + x * 3, none⟩) hbb).trans p0; have r1 := (b1.cell (p := ⟨bb, off + x * 3 + 1, none⟩) hbb).trans p1; have r2 := (b1.cell (p := ⟨bb, off + x * 3 + 2, none⟩) hbb).trans p2; clear b1)) | (go_at_call 127; ((with_reducible refine (CI.out _ HB1.out).mono ?_); rintro e w2 ⟨rfl, b2⟩; have HB2 := Lib.hid (below_next HB1.out b2); clear b2 r0 r1 r2)) | (go_at_call 55; ((with_reducible refine (CK.out _ HB2.out).mono ?_); rintro e w3 ⟨rfl, b3⟩; have HB3 := Lib.hid (below_next HB2.out b3); clear b3)))
    go_step3
    exact ⟨rfl, ⟨_, _, _, _, _, _, _, _, _, _, _, _, _, _, _, _, _, _, _, _, _, _, _, _, _, _, _, rfl, hsl, HV, HB3⟩, by unfold atOf; simp [RowKit.intOf]; omega⟩
  ·have HV : Hid (Ns.fnd (fun x => p (Tk.tk ts x)) (Ns.plc (Ns.ends ts) tz fr) = -1) := Lib.hid (by rw [HN.out, Ns.plc_end hlt]; rfl)
   have d1 : decide (tz <= x) = true := decide_eq_true (by omega)
   clear HF HI HL HN HK H
   go_wp2_with fail
   simp only [Exit.jump]
   go_ret2
   exact ⟨by rw [HV.out]; rfl, HB.out⟩
theorem FindS_any (ts : List Tk.Tok) (hm : ts.length <= 20000) (A C : Option Addr) (ca cc : Nat) (fr tz : Nat) (hft : fr <= tz) (htz : tz <= ts.length)  (w : World) (h : Ts w w.heap.size A ts) (h2 : Bs w w.heap.size .i64 C (Ns.ends ts)) :
 Calls Tryz.prog 98 #[.slice A ts.length ca, .slice C (Ns.ends ts).length cc, .int .i64 fr, .int .i64 tz, .func (Fn.func 127) #[] #[]] w (Nu (Ns.fnd (fun x => Rl.seB (Tk.tk ts x)) (Ns.plc (Ns.ends ts) tz fr)) w) := by
 have hmf : ∀ (fn : Fn) (first cap : Array Value) (w : World), (Instr.makeFunc fn first cap).run Tryz.prog w = .ok (.func fn first cap) w := fun _ _ _ _ => rfl
 obtain ⟨W0, hW⟩ : ∃ W0, W0 = w.alloc (.cells #[.int .i64 0] 3) := ⟨_, rfl⟩
 have hb0 : Below w.heap.size w W0 := by rw [hW]; exact (Below.refl _ _).alloc (Nat.le_refl _) _
 have k0 : W0.heap[w.heap.size]? = some (.cells #[.int .i64 0] 3 (0, 0)) := by rw [hW]; exact heap_alloc_new w _
 have hel := Ns.ends_len ts
 have hok : Ns.okp ts fr tz := ⟨by omega, by omega, by omega⟩
 have CI : Hid (Calls Tryz.prog 163 #[.slice A ts.length ca, .int .i64 fr, .int .i64 tz] W0 fun e w' => e = .returned (.bool true) /\ W0 = w') := Lib.hid (by have := nwithin_any ts A ca fr tz W0; rwa [decide_eq_true hok] at this)
 have HB0 := Lib.hid hb0
 have HW := Lib.hid hW.symm
 rw [hel]
 have CF := findS_any ts hm A C ca cc fr tz (by omega) htz  W0 (h.next hb0) (h2.next hb0)
 rw [hel] at CF
 have CF2 := Lib.hid CF
 clear CF
 have HK0 := Lib.hid k0
 have hz0 : w.heap.size < W0.heap.size := by rw [hW]; simp
 clear hb0 k0 hW h h2  hel hok
 generalize Ns.fnd (fun x => Rl.seB (Tk.tk ts x)) (Ns.plc (Ns.ends ts) tz fr) = n at *
 go_enter_defers Tryz.func98, Tryz.ntmps98
 go_upto_region 1 with fail
 rw [HW.out]
 clear HW
 go_wp2_with (first | (go_at_call 163; ((with_reducible refine (CI.out).mono ?_); rintro e w1 ⟨rfl, rfl⟩)) | (go_at_call 164; ((with_reducible refine (CF2.out).mono ?_); rintro e w1 ⟨rfl, b1⟩; have hk1 := below_block b1 HK0.out; obtain ⟨c1, z1⟩ : w1.cell? ⟨w.heap.size, 0, none⟩ = some (.int .i64 0) /\ w1.frozen? ⟨w.heap.size, 0, none⟩ = false := ⟨by simp [World.cell?, hk1], by simp [World.frozen?, hk1]⟩; have HB1 := Lib.hid (below_next HB0.out b1); clear b1 hk1)))
 refine leaves_cons (f := 162) (args := #[.pointer (some ⟨w.heap.size, 0, none⟩)]) (by simp) (by simp [go_sem]) ?_
 refine (catch_idle ⟨w.heap.size, 0, none⟩ _).mono ?_
 rintro e u' w'' ⟨rfl, rfl, rfl⟩
 have e2 : ((w1.setCell ⟨w.heap.size, 0, none⟩ (.int .i64 n)).setCell ⟨w.heap.size, 0, none⟩ (.int .i64 n)).cell? ⟨w.heap.size, 0, none⟩ = some (.int .i64 n) := World.cell?_setCell_same _ _ _ (World.cell?_setCell_same _ _ _ c1)
 refine ⟨.int .i64 n, ?_, rfl, (HB1.out.setCell (Nat.le_refl _) _).setCell (Nat.le_refl _) _⟩
 generalize (w1.setCell ⟨w.heap.size, 0, none⟩ (.int .i64 n)).setCell ⟨w.heap.size, 0, none⟩ (.int .i64 n) = W at *
 simp [results, Tryz.results98, go_sem, e2]
namespace Rl
open Tk Ns
theorem sk_none {ts : List Tok} {a : Nat} (h : ¬ isO (tk ts a)) (ha : a < ts.length) : sk (ends ts) a = a + 1 := by
 have e := sk_eq (ends ts) a
 have h1 := ends_none ha h
 rw [skp_no (fun c => by rw [Int.toNat_natCast, h1] at c; omega)] at e
 omega
theorem fnd_next {p : Tok -> Bool} {ts : List Tok} {a b : Nat} (h : a < b) (ha : a < ts.length) (hO : ¬ isO (tk ts a)) (hp : p (tk ts a) = false) : fnd (fun x => p (tk ts x)) (plc (ends ts) b a) = fnd (fun x => p (tk ts x)) (plc (ends ts) b (a + 1)) := by
 rw [plc_on h, fnd, if_neg (by rw [hp]; decide), sk_none hO ha]
theorem at_st {t : Tok} {semi : Bool} (h : t.1 = 4) : stB semi t = false := by
 have h1 : brB t = false := decide_eq_false (fun c => by have := c.1; omega)
 have h2 : seB t = false := decide_eq_false (fun c => by omega)
 unfold stB
 rw [h1, h2]; cases semi <;> rfl
theorem fnd_at {ts : List Tok} {a b : Nat} {semi : Bool} (h : a < b) (hb : b <= ts.length) (h4 : (tk ts a).1 = 4) : fnd (fun x => stB semi (tk ts x)) (plc (ends ts) b a) = fnd (fun x => stB semi (tk ts x)) (plc (ends ts) b (a + 1)) :=
 fnd_next h (by omega) (not_O (by omega) (by omega)) (at_st h4)
def Imp (v : List Tok) : Prop := (v ≠ [] /\ (lst v).1 = 2 /\ Ru.lowS (lst v).2.1 = impS) /\ trim v.dropLast ≠ [] /\ (lst (trim v.dropLast)).1 = 11 /\ (lst (trim v.dropLast)).2.1 = ⟨#[33]⟩
instance (v : List Tok) : Decidable (Imp v) := by unfold Imp; infer_instance
def mrk (v : List Tok) : Int := if Imp v then (trB v 0 (v.length - 1) : Int) - 1 else -1
theorem trB_pos {ts : List Tok} {a : Nat} (h : (tk ts a).1 ≠ 1) : ∀ b, a < b -> a < trB ts a b
 | 0, hb => by omega
 | b + 1, hb => by
   by_cases c : a < b + 1 /\ (tk ts b).1 = 1
   ·rw [trB_on c]
    have : a ≠ b := fun e => h (by rw [e]; exact c.2)
    exact trB_pos h b (by omega)
   ·rw [trB_end c]; exact hb
theorem edge_0 {v : List Tok} (hE : Edge v) (h : 0 < v.length) : (tk v 0).1 ≠ 1 := by
 cases v with
 | nil => simp at h
 | cons t r =>
   have := hE.1 t rfl
   exact of_decide_eq_false this
theorem trA_0 {v : List Tok} (h0 : (tk v 0).1 ≠ 1) (n : Nat) : trA v n 0 = 0 := trA_end (fun c => h0 c.2)
theorem sub_all (v : List Tok) (b : Nat) : sub v 0 b = v.take b := by unfold sub; rw [List.drop_zero]
theorem drop_sub (v : List Tok) : v.dropLast = sub v 0 (v.length - 1) := by rw [sub_all, List.dropLast_eq_take]
section
variable {v : List Tok}
theorem ahead_is (hE : Edge v) (h : 2 <= v.length) : trim v.dropLast = sub v 0 (trB v 0 (v.length - 1)) /\ 0 < trB v 0 (v.length - 1) /\ trB v 0 (v.length - 1) <= v.length - 1 := by
 have h0 := edge_0 hE (by omega)
 refine ⟨?_, trB_pos h0 _ (by omega), (trB_bd v (v.length - 1) (Nat.zero_le _)).2⟩
 rw [drop_sub, <- cut_trim (Nat.zero_le _) (by omega), trA_0 h0]
theorem imp_iff (hE : Edge v) (h : 2 <= v.length) : Imp v ↔ (tk v (v.length - 1)).1 = 2 /\ Ru.lowS (tk v (v.length - 1)).2.1 = impS /\ (tk v (trB v 0 (v.length - 1) - 1)).1 = 11 /\ (tk v (trB v 0 (v.length - 1) - 1)).2.1 = ⟨#[33]⟩ := by
 obtain ⟨e, h1, h2⟩ := ahead_is hE h
 have hl : (sub v 0 (trB v 0 (v.length - 1))).length = trB v 0 (v.length - 1) := by rw [sub_len (by omega)]; omega
 have e2 : lst (trim v.dropLast) = tk v (trB v 0 (v.length - 1) - 1) := by
  unfold lst
  rw [e, hl, tk_sub (by omega), Nat.zero_add]
 have hne : trim v.dropLast ≠ [] := by
  rw [e]
  intro c
  rw [c] at hl
  simp only [List.length_nil] at hl
  omega
 have hv : v ≠ [] := by
  rintro rfl
  simp at h
 unfold Imp
 rw [e2]
 exact ⟨fun ⟨⟨_, a, b⟩, _, c, d⟩ => ⟨a, b, c, d⟩, fun ⟨a, b, c, d⟩ => ⟨⟨hv, a, b⟩, hne, c, d⟩⟩
theorem imp_two (h : Imp v) : 2 <= v.length := by
 by_cases c : 2 <= v.length
 ·exact c
 ·exfalso
  have : v.dropLast = [] := by
   refine List.eq_nil_of_length_eq_zero ?_
   rw [List.length_dropLast]
   omega
  rw [Imp, this] at h
  exact h.2.1 rfl
theorem mrk_no (h : ¬ Imp v) : mrk v = -1 /\ value v = (v, false) := ⟨if_neg h, by unfold value; exact if_neg h⟩
theorem mrk_yes (hE : Edge v) (h : Imp v) : ∃ m : Nat, mrk v = m /\ m < v.length /\ value v = (sub v 0 (trB v (trA v m 0) m), true) := by
 have h2 := imp_two h
 obtain ⟨e, h1, h3⟩ := ahead_is hE h2
 have h0 := edge_0 hE (by omega)
 refine ⟨trB v 0 (v.length - 1) - 1, ?_, by omega, ?_⟩
 ·unfold mrk
  rw [if_pos h]; omega
 ·have e2 : value v = (trim (trim v.dropLast).dropLast, true) := by unfold value; exact if_pos h
  rw [e2, e]
  have e3 : (sub v 0 (trB v 0 (v.length - 1))).dropLast = sub v 0 (trB v 0 (v.length - 1) - 1) := by
   obtain ⟨b, hb⟩ : ∃ b, trB v 0 (v.length - 1) = b + 1 := ⟨trB v 0 (v.length - 1) - 1, by omega⟩
   rw [hb, sub_snoc (Nat.zero_le _) (by omega), List.dropLast_concat, Nat.add_sub_cancel]
  rw [e3, <- cut_trim (Nat.zero_le _) (by omega), trA_0 h0]
theorem mrk_cases (hE : Edge v) : (mrk v = -1 /\ value v = (v, false)) ∨ ∃ m : Nat, mrk v = m /\ m < v.length /\ value v = (sub v 0 (trB v (trA v m 0) m), true) := by
 by_cases h : Imp v
 ·exact .inr (mrk_yes hE h)
 ·exact .inl (mrk_no h)
end
end Rl
theorem rclose_any (k : Int) (t : ByteArray) (n : Int) (w : World) : Calls Tryz.prog 77 #[tokV k t n] w (Sg (Ns.clo (k, t, n)) w) := by
 obtain ⟨W0, hW⟩ : ∃ W0, W0 = w.alloc (.cells #[.int .i64 k, .string t, .int .i64 n] 70) := ⟨_, rfl⟩
 have hb0 : Below w.heap.size w W0 := by rw [hW]; exact (Below.refl _ _).alloc (Nat.le_refl _) _
 have k0 : W0.heap[w.heap.size]? = some (.cells #[.int .i64 k, .string t, .int .i64 n] 70 (0, 0)) := by rw [hW]; exact heap_alloc_new w _
 obtain ⟨q0, q1, q2⟩ := tok3_cells k0
 have HB0 := Lib.hid hb0
 have HW := Lib.hid hW
 clear hb0 k0 hW
 unfold tokV
 by_cases h3 : k = 3
 ·subst h3
  have HV : Hid (Ns.clo (3, t, n) = ⟨#[41]⟩) := Lib.hid (by unfold Ns.clo; rw [if_pos (.inl rfl)])
  go_enter Tryz.func77, Tryz.ntmps77
  go_upto_region 1 with fail
  rw [<- HW.out]
  go_wp2_with fail
  go_ret
  exact ⟨by rw [HV.out]; rfl, HB0.out⟩
 ·have e3 : (k == 3) = false := beq_false_of_ne h3
  by_cases h12 : k = 12
  ·subst h12
   clear h3
   have cases4 : t = ⟨#[40]⟩ ∨ t = ⟨#[91]⟩ ∨ t = ⟨#[123]⟩ ∨ ((t.toList == [40]) = false /\ (t.toList == [91]) = false /\ (t.toList == [123]) = false) := by
    rw [str_test, str_test, str_test]
    by_cases a : t = ⟨#[40]⟩
    ·exact .inl a
    ·by_cases b : t = ⟨#[91]⟩
     ·exact .inr (.inl b)
     ·by_cases c : t = ⟨#[123]⟩
      ·exact .inr (.inr (.inl c))
      ·exact .inr (.inr (.inr ⟨decide_eq_false a, decide_eq_false b, decide_eq_false c⟩))
   have HV : Hid (t = ⟨#[40]⟩ ∨ t = ⟨#[91]⟩ ∨ t = ⟨#[123]⟩ ∨ Ns.clo (12, t, n) = ⟨#[]⟩) := Lib.hid (by
    rcases cases4 with h | h | h | ⟨h1, h2, h3⟩
    ·exact .inl h
    ·exact .inr (.inl h)
    ·exact .inr (.inr (.inl h))
    ·rw [str_test] at h1 h2 h3
     refine .inr (.inr (.inr ?_))
     unfold Ns.clo
     rw [if_neg (fun h => h.elim (fun h => by cases h) (fun h => of_decide_eq_false h1 h.2)), if_neg (fun h => of_decide_eq_false h2 h.2), if_neg (fun h => of_decide_eq_false h3 h.2)])
   rcases cases4 with rfl | rfl | rfl | ⟨e4, e5, e6⟩
   ·clear HV
    go_enter Tryz.func77, Tryz.ntmps77
    go_upto_region 1 with fail
    rw [<- HW.out]
    go_wp2_with fail
    go_ret
    exact ⟨rfl, HB0.out⟩
   ·clear HV
    go_enter Tryz.func77, Tryz.ntmps77
    go_upto_region 1 with fail
    rw [<- HW.out]
    go_wp2_with fail
    go_ret
    exact ⟨rfl, HB0.out⟩
   ·clear HV
    go_enter Tryz.func77, Tryz.ntmps77
    go_upto_region 1 with fail
    rw [<- HW.out]
    go_wp2_with fail
    go_ret
    exact ⟨rfl, HB0.out⟩
   ·have HV2 : Hid (Ns.clo (12, t, n) = ⟨#[]⟩) := Lib.hid (by
     rcases HV.out with h | h | h | h
     ·rw [str_test] at e4; exact absurd h (of_decide_eq_false e4)
     ·rw [str_test] at e5; exact absurd h (of_decide_eq_false e5)
     ·rw [str_test] at e6; exact absurd h (of_decide_eq_false e6)
     ·exact h)
    clear HV
    go_enter Tryz.func77, Tryz.ntmps77
    go_upto_region 1 with fail
    rw [<- HW.out]
    go_wp2_with fail
    go_ret
    exact ⟨by rw [HV2.out]; rfl, HB0.out⟩
  ·have e12 : (k == 12) = false := beq_false_of_ne h12
   have HV : Hid (Ns.clo (k, t, n) = ⟨#[]⟩) := Lib.hid (Ns.clo_none (Ns.not_O h3 h12))
   clear h3 h12
   go_enter Tryz.func77, Tryz.ntmps77
   go_upto_region 1 with fail
   rw [<- HW.out]
   go_wp2_with fail
   go_ret
   exact ⟨by rw [HV.out]; rfl, HB0.out⟩
def OpenAt (ts : List Tk.Tok) (at_ : Nat) (w : World) (v5 v6 : Value) (wr : World) : Prop :=
 ∃ k : Nat, k <= at_ /\ v6 = .int .i64 k /\ Ow 3 1 w v5 (Ns.ni (Ns.opn ts k)).length (nums .i64 (Ns.ni (Ns.opn ts k))) wr
theorem ropen_any (ts : List Tk.Tok) (hm : ts.length <= 65536) (A : Option Addr) (cap at_ : Nat) (hat : at_ <= ts.length) (w : World) (h : Ts w w.heap.size A ts) :
 Calls Tryz.prog 76 #[.slice A ts.length cap, .int .i64 at_] w (Made .i64 3 (Ns.ni (Ns.opn ts at_)) w) := by
 have H := Lib.hid h
 clear h
 go_enter Tryz.func76, Tryz.ntmps76
 go_wp2_with fail
 go_loopw [5, 6] (fun v5 v6 wr => OpenAt ts at_ w v5 v6 wr) (fun _ v6 _ => at_ - (RowKit.intOf v6).toNat)
 case atStart => exact ⟨0, Nat.zero_le _, rfl, Ow.start _ _ (Below.refl _ _)⟩
 case round =>
  obtain ⟨k, hk, rfl, hown⟩ := hrel
  have HO := Lib.hid hown
  clear hown
  by_cases hlt : k < at_
  ·obtain ⟨bb, off, rfl, hbb, hp⟩ := (H.out.next HO.out.bel) (by omega)
   obtain ⟨p0, p1, p2⟩ := hp k (by omega)
   have hol := Ns.opn_len ts k
   have hnl := Ns.ni_len (Ns.opn ts k)
   have HL := Lib.hid hnl
   have hol2 : (Ns.ni (Ns.opn ts k)).length <= 1000000 := by omega
   have HP := Lib.hid hp
   clear hp hnl
   have C : Hid (∀ W, Calls Tryz.prog 77 #[.agg #[.int .i64 (Tk.tk ts k).1, .string (Tk.tk ts k).2.1, .int .i64 (Tk.tk ts k).2.2]] W (Sg (Ns.clo (Tk.tk ts k)) W)) := Lib.hid fun W => rclose_any _ _ _ W
   by_cases hO : Ns.isO (Tk.tk ts k)
   ·have HN : Hid (Ns.ni (Ns.opn ts (k + 1)) = Ns.ni (Ns.opn ts k) ++ [(k : Int)]) := Lib.hid (by rw [Ns.opn_push hO, Ns.ni_app]; rfl)
    have he := Ns.empty_f hO
    clear hO HP HL
    generalize Ns.clo (Tk.tk ts k) = cl at *
    generalize Tk.tk ts k = u at *
    generalize Ns.ni (Ns.opn ts k) = ol at *
    go_wp2_with (first | (go_at_call 77; ((with_reducible refine (C.out _).mono ?_); rintro e w1 ⟨rfl, b1⟩; have HO1 := Lib.hid (HO.out.next b1); clear b1)) | (at_builtin; refine app_int rfl _ _ rfl rfl HO1.out (k : Int) _ _ rfl hol2 ?_; intro v' w3 H3; have HO3 := Lib.hid H3; clear H3))
    go_roundw
    case rel => exact ⟨k + 1, by omega, by go_num, by rw [HN.out]; exact HO3.out⟩
    case measure => simp [RowKit.intOf]; omega
   ·have hcn := Ns.clo_none hO
    by_cases h13 : (Tk.tk ts k).1 = 13
    ·have e13 : ((Tk.tk ts k).1 == 13) = true := by rw [h13]; rfl
     by_cases hl0 : 0 < (Ns.opn ts k).length
     ·have hol3 := HL.out
      obtain ⟨g, cv, rfl, _, hg0, hg1⟩ := HO.out.at_ (by omega)
      have htop := Ns.top_g hl0
      have hne : Ns.opn ts k ≠ [] := by intro e; rw [e] at hl0; simp at hl0
      have hTm := Ns.opn_lt (Ns.top_mem hne)
      have hgc := HO.out.cells (nums_get (k := .i64) (l := Ns.ni (Ns.opn ts k)) (j := (Ns.opn ts k).length - 1) (by omega))
      rw [htop] at hgc
      rw [<- hol3] at hgc
      obtain ⟨t0, t1, t2⟩ := HP.out (Ns.top (Ns.opn ts k)) (by omega)
      have CT : Hid (∀ W, Calls Tryz.prog 77 #[.agg #[.int .i64 (Tk.tk ts (Ns.top (Ns.opn ts k))).1, .string (Tk.tk ts (Ns.top (Ns.opn ts k))).2.1, .int .i64 (Tk.tk ts (Ns.top (Ns.opn ts k))).2.2]] W (Sg (Ns.clo (Tk.tk ts (Ns.top (Ns.opn ts k)))) W)) := Lib.hid fun W => rclose_any _ _ _ W
      have hcl := str_same (Ns.clo (Tk.tk ts (Ns.top (Ns.opn ts k)))) (Tk.tk ts k).2.1
      have HY : Hid (Ns.clo (Tk.tk ts (Ns.top (Ns.opn ts k))) = (Tk.tk ts k).2.1 -> Ns.ni (Ns.opn ts (k + 1)) = (Ns.ni (Ns.opn ts k)).take ((Ns.ni (Ns.opn ts k)).length - 1)) := Lib.hid fun h => by rw [Ns.opn_pop ⟨h13, hne, h⟩, Ns.ni_drop, Ns.ni_len]
      have HX : Hid (¬ Ns.clo (Tk.tk ts (Ns.top (Ns.opn ts k))) = (Tk.tk ts k).2.1 -> Ns.ni (Ns.opn ts (k + 1)) = Ns.ni (Ns.opn ts k)) := Lib.hid fun h => by rw [Ns.opn_keep hO (fun c => h c.2.2)]
      have hpos : 0 < (Ns.ni (Ns.opn ts k)).length := by omega
      have hz : decide (0 < (Ns.ni (Ns.opn ts k)).length) = true := decide_eq_true hpos
      have hz2 : decide (0 < ((Ns.ni (Ns.opn ts k)).length : Int)) = true := decide_eq_true (by omega)
      have hT1 : Ns.top (Ns.opn ts k) < ts.length := by omega
      rw [h13] at p0
      rw [hcn, h13] at C
      clear hO HP hcn h13 htop hl0 hne hTm hol3 HL e13
      generalize Ns.clo (Tk.tk ts (Ns.top (Ns.opn ts k))) = ct at *
      generalize Tk.tk ts (Ns.top (Ns.opn ts k)) = uu at *
      obtain ⟨uk, ut, un⟩ := uu
      generalize Ns.top (Ns.opn ts k) = T at *
      generalize (Tk.tk ts k).2.1 = tx at *
      generalize (Tk.tk ts k).2.2 = tn at *
      generalize Ns.ni (Ns.opn ts k) = ol at *
      simp only at t0 t1 t2 CT
      have hsub : IntKind.i64.wrap ((ol.length : Int) - 1) = (ol.length : Int) - 1 := IntWalk.i64_in _ (by omega)
      have hsn : ((ol.length : Int) - 1).toNat = ol.length - 1 := by omega
      have hsb : (0 : Int) <= (ol.length : Int) - 1 := by omega
      have hti : (T : Int) < (ts.length : Int) := by omega
      have hsl : (ol.length : Int) - 1 < (ol.length : Int) := by omega
      have hk0 : (0 : Int) <= (k : Int) := by omega
      have hs1 : (1 : Int) <= (ol.length : Int) := by omega
      have hs2 : 1 <= ol.length := by omega
      have hk1 : (k : Int) < (ts.length : Int) := by omega
      by_cases hc : ct = tx
      ·have e8 : (ct.toList == tx.toList) = true := by rw [hcl]; exact decide_eq_true hc
       have HN := Lib.hid (HY.out hc)
       clear HX HY hcl hc
       go_upto_region 7 with (first | (go_at_call 77; ((with_reducible refine (C.out _).mono ?_); rintro e w1 ⟨rfl, b1⟩; have HO1 := Lib.hid (HO.out.next b1); have r0 := (b1.cell (p := ⟨bb, off + k * 3, none⟩) hbb).trans p0; have r1 := (b1.cell (p := ⟨bb, off + k * 3 + 1, none⟩) hbb).trans p1; have s0 := (b1.cell (p := ⟨bb, off + T * 3, none⟩) hbb).trans t0; have s1 := (b1.cell (p := ⟨bb, off + T * 3 + 1, none⟩) hbb).trans t1; have s2 := (b1.cell (p := ⟨bb, off + T * 3 + 2, none⟩) hbb).trans t2; have gc := (b1.cell (p := ⟨g, ol.length - 1, none⟩) hg1).trans hgc; have hbb1 := Nat.lt_of_lt_of_le hbb b1.size; have hg2 := Nat.lt_of_lt_of_le hg1 b1.size; clear b1 C)))
       clear p0 p1 p2 t0 t1 t2 hgc hbb hg1
       go_region_held3 (fun w' => w'.cell? ⟨bb, off + k * 3, none⟩ = some (.int .i64 13) /\ w'.cell? ⟨bb, off + k * 3 + 1, none⟩ = some (.string tx) /\ w'.cell? ⟨bb, off + T * 3, none⟩ = some (.int .i64 uk) /\ w'.cell? ⟨bb, off + T * 3 + 1, none⟩ = some (.string ut) /\ w'.cell? ⟨bb, off + T * 3 + 2, none⟩ = some (.int .i64 un) /\ w'.cell? ⟨g, ol.length - 1, none⟩ = some (.int .i64 T))
        (first | go_keep | (go_split_ands; exact ⟨(hb1.cell (p := ⟨bb, off + k * 3, none⟩) hbb1).trans (by assumption), (hb1.cell (p := ⟨bb, off + k * 3 + 1, none⟩) hbb1).trans (by assumption), (hb1.cell (p := ⟨bb, off + T * 3, none⟩) hbb1).trans (by assumption), (hb1.cell (p := ⟨bb, off + T * 3 + 1, none⟩) hbb1).trans (by assumption), (hb1.cell (p := ⟨bb, off + T * 3 + 2, none⟩) hbb1).trans (by assumption), (hb1.cell (p := ⟨g, ol.length - 1, none⟩) hg2).trans (by assumption)⟩))
        (first | (go_at_call 77; refine (CT.out _).mono ?_; rintro e w2 ⟨rfl, hb1⟩))
       have HO2 := Lib.hid (HO1.out.next ((Below.refl _ _).drew.trans hb1))
       clear hb1 r0 r1 s0 s1 s2 gc hsub hsb hsn hti
       go_wp2_with fail
       go_roundw
       case rel => exact ⟨k + 1, by omega, by go_num, by rw [HN.out, nums_take, List.length_take, Nat.min_eq_left (Nat.sub_le _ _)]; have := HO2.out.cut (m := ol.length - 1) (Nat.sub_le _ _); rwa [Nat.mul_one] at this⟩
       case measure => simp [RowKit.intOf]; omega
      ·have e8 : (ct.toList == tx.toList) = false := by rw [hcl]; exact decide_eq_false hc
       have HN := Lib.hid (HX.out hc)
       clear HX HY hcl hc
       go_upto_region 7 with (first | (go_at_call 77; ((with_reducible refine (C.out _).mono ?_); rintro e w1 ⟨rfl, b1⟩; have HO1 := Lib.hid (HO.out.next b1); have r0 := (b1.cell (p := ⟨bb, off + k * 3, none⟩) hbb).trans p0; have r1 := (b1.cell (p := ⟨bb, off + k * 3 + 1, none⟩) hbb).trans p1; have s0 := (b1.cell (p := ⟨bb, off + T * 3, none⟩) hbb).trans t0; have s1 := (b1.cell (p := ⟨bb, off + T * 3 + 1, none⟩) hbb).trans t1; have s2 := (b1.cell (p := ⟨bb, off + T * 3 + 2, none⟩) hbb).trans t2; have gc := (b1.cell (p := ⟨g, ol.length - 1, none⟩) hg1).trans hgc; have hbb1 := Nat.lt_of_lt_of_le hbb b1.size; have hg2 := Nat.lt_of_lt_of_le hg1 b1.size; clear b1 C)))
       clear p0 p1 p2 t0 t1 t2 hgc hbb hg1
       go_region_held3 (fun w' => w'.cell? ⟨bb, off + k * 3, none⟩ = some (.int .i64 13) /\ w'.cell? ⟨bb, off + k * 3 + 1, none⟩ = some (.string tx) /\ w'.cell? ⟨bb, off + T * 3, none⟩ = some (.int .i64 uk) /\ w'.cell? ⟨bb, off + T * 3 + 1, none⟩ = some (.string ut) /\ w'.cell? ⟨bb, off + T * 3 + 2, none⟩ = some (.int .i64 un) /\ w'.cell? ⟨g, ol.length - 1, none⟩ = some (.int .i64 T))
        (first | go_keep | (go_split_ands; exact ⟨(hb1.cell (p := ⟨bb, off + k * 3, none⟩) hbb1).trans (by assumption), (hb1.cell (p := ⟨bb, off + k * 3 + 1, none⟩) hbb1).trans (by assumption), (hb1.cell (p := ⟨bb, off + T * 3, none⟩) hbb1).trans (by assumption), (hb1.cell (p := ⟨bb, off + T * 3 + 1, none⟩) hbb1).trans (by assumption), (hb1.cell (p := ⟨bb, off + T * 3 + 2, none⟩) hbb1).trans (by assumption), (hb1.cell (p := ⟨g, ol.length - 1, none⟩) hg2).trans (by assumption)⟩))
        (first | (go_at_call 77; refine (CT.out _).mono ?_; rintro e w2 ⟨rfl, hb1⟩))
       have HO2 := Lib.hid (HO1.out.next ((Below.refl _ _).drew.trans hb1))
       clear hb1 r0 r1 s0 s1 s2 gc hsub hsb hsn hti
       go_wp2_with fail
       go_roundw
       case rel => exact ⟨k + 1, by omega, by go_num, by rw [HN.out]; exact HO2.out⟩
       case measure => simp [RowKit.intOf]; omega
     ·have HN : Hid (Ns.ni (Ns.opn ts (k + 1)) = Ns.ni (Ns.opn ts k)) := Lib.hid (by rw [Ns.opn_keep hO (fun h => h.2.1 (List.eq_nil_of_length_eq_zero (by omega)))])
      have hz : decide (0 < (Ns.ni (Ns.opn ts k)).length) = false := decide_eq_false (by rw [HL.out]; exact hl0)
      have hz2 : decide (0 < ((Ns.ni (Ns.opn ts k)).length : Int)) = false := decide_eq_false (by rw [HL.out]; omega)
      obtain ⟨Av, cv, rfl, _⟩ := HO.out.form
      rw [hcn] at C
      clear hO HP HL hcn h13
      generalize Tk.tk ts k = u at *
      generalize Ns.ni (Ns.opn ts k) = ol at *
      go_wp2_with (first | (go_at_call 77; ((with_reducible refine (C.out _).mono ?_); rintro e w1 ⟨rfl, b1⟩; have HO1 := Lib.hid (HO.out.next b1); have r0 := (b1.cell (p := ⟨bb, off + k * 3, none⟩) hbb).trans p0; clear b1)))
      go_quiet (fail)
      go_wp2_with fail
      go_roundw
      case rel => exact ⟨k + 1, by omega, by go_num, by rw [HN.out]; exact HO1.out.drewN _⟩
      case measure => simp [RowKit.intOf]; omega
    ·have HN : Hid (Ns.opn ts (k + 1) = Ns.opn ts k) := Lib.hid (Ns.opn_keep hO (fun h => h13 h.1))
     have e13 : ((Tk.tk ts k).1 == 13) = false := beq_false_of_ne h13
     rw [hcn] at C
     clear hO HP HL hcn h13
     generalize Tk.tk ts k = u at *
     generalize Ns.opn ts k = ol at *
     go_wp2_with (first | (go_at_call 77; ((with_reducible refine (C.out _).mono ?_); rintro e w1 ⟨rfl, b1⟩; have HO1 := Lib.hid (HO.out.next b1); have r0 := (b1.cell (p := ⟨bb, off + k * 3, none⟩) hbb).trans p0; clear b1)))
     go_quiet (fail)
     go_wp2_with fail
     go_roundw
     case rel => exact ⟨k + 1, by omega, by go_num, by rw [HN.out]; exact HO1.out.drewN _⟩
     case measure => simp [RowKit.intOf]; omega
  ·obtain rfl : k = at_ := by omega
   go_wp2_with fail
   go_ret
   exact made_of HO.out rfl
def EndsAt (ts : List Tk.Tok) (w : World) (v4 v5 : Value) (wr : World) : Prop :=
 ∃ k : Nat, k <= ts.length /\ v5 = .int .i64 k /\ Ow 3 1 w v4 ((Ns.ends ts).take k).length (nums .i64 ((Ns.ends ts).take k)) wr /\ Hid (∀ j, j < k -> (Ns.opn ts (j + 1)).length <= 64)
theorem rends_any (ts : List Tk.Tok) (hm : ts.length <= 65536) (A : Option Addr) (cap : Nat) (w : World) (h : Ts w w.heap.size A ts) :
 Calls Tryz.prog 37 #[.slice A ts.length cap] w (EndsIs ts w) := by
 have HC : Hid (∀ (j : Nat) (W : World), j < ts.length -> Below w.heap.size w W -> Calls Tryz.prog 76 #[.slice A ts.length cap, .int .i64 ((j : Int) + 1)] W (Told .i64 (Ns.ni (Ns.opn ts (j + 1))) W)) :=
  Lib.hid fun j W hj hb => (ropen_any ts hm A cap (j + 1) hj W (h.next hb)).mono fun e w' hh => told hh
 have H := Lib.hid h
 clear h
 have hel := Ns.ends_len ts
 have HEL := Lib.hid hel
 clear hel
 go_enter Tryz.func37, Tryz.ntmps37
 go_wp2_with fail
 go_loopw [4, 5] (fun v4 v5 wr => EndsAt ts w v4 v5 wr) (fun _ v5 _ => ts.length - (RowKit.intOf v5).toNat)
 case atStart => exact ⟨0, Nat.zero_le _, rfl, Ow.start _ _ (Below.refl _ _), Lib.hid (fun j hj => by omega)⟩
 case round =>
  obtain ⟨k, hk, rfl, hown, HD⟩ := hrel
  have HO := Lib.hid hown
  clear hown
  by_cases hlt : k < ts.length
  ·have CO := Lib.hid (HC.out k _ hlt HO.out.bel)
   have hol : 0 < (Ns.opn ts (k + 1)).length ∨ ¬ Ns.isO (Tk.tk ts k) := by
    by_cases hO : Ns.isO (Tk.tk ts k)
    ·left; rw [Ns.opn_push hO]; simp
    ·exact .inr hO
   have hnl := Ns.ni_len (Ns.opn ts (k + 1))
   have hle := Ns.opn_len ts (k + 1)
   by_cases h64 : 64 < (Ns.opn ts (k + 1)).length
   ·have HV : Hid (Ns.deep ts) := Lib.hid ⟨k, hlt, h64⟩
    have d1 : decide (64 < (Ns.ni (Ns.opn ts (k + 1))).length) = true := decide_eq_true (by omega)
    have d2 : decide (64 < ((Ns.ni (Ns.opn ts (k + 1))).length : Int)) = true := decide_eq_true (by omega)
    clear h64 hnl hle hol HD
    generalize Ns.ni (Ns.opn ts (k + 1)) = ol at *
    go_wp2_with (first | (go_at_call 76; ((with_reducible refine (CO.out).mono ?_); rintro e w1 ⟨A1, c1, rfl, hc1, B1, b1⟩; have HB1 := Lib.hid (below_next HO.out.bel b1); clear b1 B1)))
    go_ret2
    exact ⟨fun h => absurd HV.out h, fun _ => ⟨rfl, HB1.out⟩⟩
   ·have d1 : decide (64 < (Ns.ni (Ns.opn ts (k + 1))).length) = false := decide_eq_false (by omega)
    have d2 : decide (64 < ((Ns.ni (Ns.opn ts (k + 1))).length : Int)) = false := decide_eq_false (by omega)
    have HD2 : Hid (∀ j, j < k + 1 -> (Ns.opn ts (j + 1)).length <= 64) := Lib.hid fun j hj => by
     by_cases e : j = k
     ·subst e; omega
     ·exact HD.out j (by omega)
    have HN : Hid ((Ns.ends ts).take (k + 1) = (Ns.ends ts).take k ++ [Ru.g (Ns.ends ts) k]) := Lib.hid (Ru.take_g (by rw [HEL.out]; exact hlt))
    have htl : ((Ns.ends ts).take k).length <= 1000000 := by have := List.length_take_le k (Ns.ends ts); omega
    obtain ⟨bb, off, rfl, hbb, hp⟩ := (H.out.next HO.out.bel) (by omega)
    obtain ⟨p0, p1, p2⟩ := hp k hlt
    clear hp
    have C : Hid (∀ W, Calls Tryz.prog 77 #[.agg #[.int .i64 (Tk.tk ts k).1, .string (Tk.tk ts k).2.1, .int .i64 (Tk.tk ts k).2.2]] W (Sg (Ns.clo (Tk.tk ts k)) W)) := Lib.hid fun W => rclose_any _ _ _ W
    clear HD
    by_cases hO : Ns.isO (Tk.tk ts k)
    ·have he := Ns.empty_f hO
     have HLO : Hid ((Ns.ni (Ns.opn ts (k + 1))).length = (Ns.opn ts (k + 1)).length) := Lib.hid hnl
     have hlo1 : 0 < (Ns.opn ts (k + 1)).length := by rw [Ns.opn_push hO]; simp
     have HK0 := Lib.hid (Ns.known_start ts k)
     have HSI : Hid (∀ j, k <= j -> (k ∈ Ns.opn ts (j + 1) ↔ ((Ns.opn ts (k + 1)).length <= (Ns.opn ts (j + 1)).length /\ (Ns.opn ts (j + 1)).getD ((Ns.opn ts (k + 1)).length - 1) 0 = k))) := Lib.hid fun j hj => Ns.stay_iff hO hj
     have HKE : Hid (∀ e : Int, Ns.Known ts k (k + 1) e -> e = Ru.g (Ns.ends ts) k) := Lib.hid fun e h => Ns.known_end hO h
     clear hO h64 hol hnl
     generalize Tk.tk ts k = u at *
     generalize Ns.clo u = cl at *
     generalize Ns.ni (Ns.opn ts (k + 1)) = ol at *
     generalize (Ns.opn ts (k + 1)).length = lo at *
     generalize (Ns.ends ts).take k = el at *
     obtain ⟨A4, c4, rfl, _⟩ := HO.out.form
     go_wp2_with (first | (go_at_call 76; ((with_reducible refine (CO.out).mono ?_); rintro e w1 ⟨A1, c1, rfl, hc1, B1, b1⟩; have HO1 := Lib.hid (HO.out.next b1); have r0 := (b1.cell (p := ⟨bb, off + k * 3, none⟩) hbb).trans p0; have r1 := (b1.cell (p := ⟨bb, off + k * 3 + 1, none⟩) hbb).trans p1; have r2 := (b1.cell (p := ⟨bb, off + k * 3 + 2, none⟩) hbb).trans p2; clear b1 B1)) | (go_at_call 77; ((with_reducible refine (C.out _).mono ?_); rintro e w2 ⟨rfl, b2⟩; have HO2 := Lib.hid (HO1.out.next b2); clear b2)))
     obtain ⟨wo, rfl⟩ : ∃ wo : World, wo = w2 := ⟨_, rfl⟩
     clear HO HO1 r0 r1 r2 p0 p1 p2 CO C he
     go_loopw [7, 8] (fun v7 v8 wi => ∃ (j : Nat) (x : Int), k <= j /\ j < ts.length /\ v8 = .int .i64 j /\ v7 = .int .i64 x /\ Hid (Ns.Known ts k (j + 1) x) /\ Hid (Ow 3 1 w (.slice A4 el.length c4) el.length (nums .i64 el) wi)) (fun _ v8 _ => (RowKit.intOf v8).toNat)
     case atStart => exact ⟨ts.length - 1, ts.length, by omega, by omega, by first | rfl | (congr 1; omega), rfl, by rw [show ts.length - 1 + 1 = ts.length by omega]; exact HK0, HO2⟩
     case round =>
      obtain ⟨j, x, hj1, hj2, rfl, rfl, HX, HOi⟩ := hrel
      by_cases hjk : k < j
      ·have CI := Lib.hid (HC.out j _ hj2 HOi.out.bel)
       have hln := Ns.ni_len (Ns.opn ts (j + 1))
       have HSj := Lib.hid (HSI.out j hj1)
       have hlo2 := HLO.out
       have HJ3 : Hid (j - 1 + 1 = j) := Lib.hid (by omega)
       clear HSI HKE HN HD2 HC HK0
       have hsub : IntKind.i64.wrap ((ol.length : Int) - 1) = (ol.length : Int) - 1 := IntWalk.i64_in _ (by omega)
       have hsn : ((ol.length : Int) - 1).toNat = ol.length - 1 := by omega
       have hs1 : (1 : Int) <= (ol.length : Int) := by omega
       by_cases hll : (Ns.opn ts (j + 1)).length < lo
       ·have HV : Hid (Ns.Known ts k j j) := Lib.hid (Ns.known_new hj2 (fun h => by have := (HSj.out.1 h).1; omega))
        have d3 : decide ((Ns.ni (Ns.opn ts (j + 1))).length < ol.length) = true := decide_eq_true (by omega)
        clear HSj hln hlo2 HLO hll
        generalize Ns.ni (Ns.opn ts (j + 1)) = nl at *
        go_wp2_with (first | (go_at_call 76; ((with_reducible refine (CI.out).mono ?_); rintro e w3 ⟨A3, c3, rfl, hc3, B3, b3⟩; have HO3 := Lib.hid (HOi.out.next b3); clear B3; clear b3)))
        go_roundw
        case rel => exact ⟨j - 1, (j : Int), by omega, by omega, by first | rfl | (congr 1; omega), rfl, by rw [HJ3.out]; exact HV, HO3⟩
        case measure => simp [RowKit.intOf]; omega
       ·have hg : Ru.g (Ns.ni (Ns.opn ts (j + 1))) (ol.length - 1) = (((Ns.opn ts (j + 1)).getD (lo - 1) 0 : Nat) : Int) := by rw [hlo2]; exact Ns.ni_g (by omega)
        have d3 : decide ((Ns.ni (Ns.opn ts (j + 1))).length < ol.length) = false := decide_eq_false (by omega)
        have hpos : 0 < (Ns.ni (Ns.opn ts (j + 1))).length := by omega
        have hix : ((ol.length : Int) - 1) < ((Ns.ni (Ns.opn ts (j + 1))).length : Int) := by omega
        have hix2 : ol.length - 1 < (Ns.ni (Ns.opn ts (j + 1))).length := by omega
        by_cases hv : (Ns.opn ts (j + 1)).getD (lo - 1) 0 = k
        ·have hmem : k ∈ Ns.opn ts (j + 1) := HSj.out.2 ⟨by omega, hv⟩
         have HV : Hid (Ns.Known ts k j x) := Lib.hid (Ns.known_same HX.out hmem)
         rw [hv] at hg
         have HG := Lib.hid hg
         clear HSj hln hlo2 HLO hll hv hmem hg
         generalize Ns.ni (Ns.opn ts (j + 1)) = nl at *
         go_wp2_with (first | (go_at_call 76; ((with_reducible refine (CI.out).mono ?_); rintro e w3 ⟨A3, c3, rfl, hc3, B3, b3⟩; have HO3 := Lib.hid (HOi.out.next b3); obtain ⟨b3b, o3, rfl, hb3, hp3⟩ := B3 hpos; have c3g := hp3 (ol.length - 1) hix2; rw [HG.out] at c3g; clear hp3 B3; clear b3)))
         go_roundw
         case rel => exact ⟨j - 1, x, by omega, by omega, by first | rfl | (congr 1; omega), rfl, by rw [HJ3.out]; exact HV, HO3⟩
         case measure => simp [RowKit.intOf]; omega
        ·have HV : Hid (Ns.Known ts k j j) := Lib.hid (Ns.known_new hj2 (fun h => hv (HSj.out.1 h).2))
         have hb1 : ((((Ns.opn ts (j + 1)).getD (lo - 1) 0 : Nat) : Int) != (k : Int)) = true := Ru.ne_t (by omega)
         have hb2 : (((Ns.opn ts (j + 1)).getD (lo - 1) 0) != k) = true := by simpa using hv
         have HG := Lib.hid hg
         clear HSj hln hlo2 HLO hll hg hv
         generalize (Ns.opn ts (j + 1)).getD (lo - 1) 0 = y at *
         generalize Ns.ni (Ns.opn ts (j + 1)) = nl at *
         go_wp2_with (first | (go_at_call 76; ((with_reducible refine (CI.out).mono ?_); rintro e w3 ⟨A3, c3, rfl, hc3, B3, b3⟩; have HO3 := Lib.hid (HOi.out.next b3); obtain ⟨b3b, o3, rfl, hb3, hp3⟩ := B3 hpos; have c3g := hp3 (ol.length - 1) hix2; rw [HG.out] at c3g; clear hp3 B3; clear b3)))
         go_roundw
         case rel => exact ⟨j - 1, (j : Int), by omega, by omega, by first | rfl | (congr 1; omega), rfl, by rw [HJ3.out]; exact HV, HO3⟩
         case measure => simp [RowKit.intOf]; omega
      ·obtain rfl : j = k := by omega
       have HE := Lib.hid (HKE.out x HX.out)
       go_wp2_with (first | (at_builtin; refine app_int rfl _ _ rfl rfl HOi.out x _ _ rfl htl ?_; intro v' w3 H3; have HO3 := Lib.hid H3; clear H3))
       go_roundw
       case rel => exact ⟨j + 1, by omega, by go_num, by rw [HN.out, <- HE.out]; exact HO3.out, HD2⟩
       case measure => simp [RowKit.intOf]; omega
    ·have hcn := Ns.clo_none hO
     have HE := Lib.hid (Ns.ends_none hlt hO)
     rw [hcn] at C
     clear hcn hO h64 hol hnl hle
     generalize Tk.tk ts k = u at *
     generalize Ns.ni (Ns.opn ts (k + 1)) = ol at *
     generalize (Ns.ends ts).take k = el at *
     go_wp2_with (first | (go_at_call 76; ((with_reducible refine (CO.out).mono ?_); rintro e w1 ⟨A1, c1, rfl, hc1, B1, b1⟩; have HO1 := Lib.hid (HO.out.next b1); have r0 := (b1.cell (p := ⟨bb, off + k * 3, none⟩) hbb).trans p0; have r1 := (b1.cell (p := ⟨bb, off + k * 3 + 1, none⟩) hbb).trans p1; have r2 := (b1.cell (p := ⟨bb, off + k * 3 + 2, none⟩) hbb).trans p2; clear b1 B1)) | (go_at_call 77; ((with_reducible refine (C.out _).mono ?_); rintro e w2 ⟨rfl, b2⟩; have HO2 := Lib.hid (HO1.out.next b2); clear b2)) | (at_builtin; refine app_int rfl _ _ rfl rfl HO2.out (-1) _ _ rfl htl ?_; intro v' w3 H3; have HO3 := Lib.hid H3; clear H3))
     go_roundw
     case rel => exact ⟨k + 1, by omega, by go_num, by rw [HN.out, HE.out]; exact HO3.out, HD2⟩
     case measure => simp [RowKit.intOf]; omega
  ·obtain rfl : k = ts.length := by omega
   have HT : Hid ((Ns.ends ts).take ts.length = Ns.ends ts) := Lib.hid (List.take_of_length_le (by rw [HEL.out]; exact Nat.le_refl _))
   go_wp2_with fail
   go_ret2
   exact ⟨fun _ => ⟨_, rfl, by have := HO.out.own; rw [HT.out] at this; exact this, HO.out.bel⟩, fun ⟨j, h1, h2⟩ => by have := HD.out j h1; omega⟩
theorem ntrim_some (ts : List Tk.Tok) (hm : ts.length <= 65536) (bb off : Nat) (ca : Nat) (fr tz : Nat) (hft : fr <= tz) (hto : tz <= ts.length) (w : World) (h : ∀ j, j < ts.length -> w.cell? ⟨bb, off + j * 3, none⟩ = some (.int .i64 (Tk.tk ts j).1)) :
 Calls Tryz.prog 102 #[.slice (some ⟨bb, off, none⟩) ts.length ca, .int .i64 fr, .int .i64 tz] w (Tw (Ns.trA ts tz fr) (Ns.trB ts (Ns.trA ts tz fr) tz) w) := by
 have HP := Lib.hid h
 clear h
 have CI : Hid (∀ W, Calls Tryz.prog 163 #[.slice (some ⟨bb, off, none⟩) ts.length ca, .int .i64 fr, .int .i64 tz] W fun e w' => e = .returned (.bool true) /\ W = w') := Lib.hid fun W => by
  have := nwithin_any ts (some ⟨bb, off, none⟩) ca fr tz W
  rwa [show decide (Ns.okp ts fr tz) = true from decide_eq_true ⟨by omega, by omega, by omega⟩] at this
 go_enter Tryz.func102, Tryz.ntmps102
 go_wp2_with (go_at_call 163; ((with_reducible refine (CI.out _).mono ?_); rintro e w1 ⟨rfl, rfl⟩))
 go_loopw [1] (fun v1 wr => ∃ a : Nat, v1 = .int .i64 a /\ a <= tz /\ Hid (Ns.trA ts tz fr = Ns.trA ts tz a) /\ wr = w) (fun v1 _ => tz - (RowKit.intOf v1).toNat)
 case atStart => exact ⟨fr, rfl, hft, Lib.hid rfl, rfl⟩
 case round =>
  obtain ⟨a, rfl, ha, HT, rfl⟩ := hrel
  by_cases hlt : a < tz
  ·have p0 := HP.out a (by omega)
   have hat : a < ts.length := by omega
   by_cases hk : (Tk.tk ts a).1 = 1
   ·have HV : Hid (Ns.trA ts tz fr = Ns.trA ts tz (a + 1)) := Lib.hid (by rw [HT.out, Ns.trA_on ⟨hlt, hk⟩])
    rw [hk] at p0
    clear hk HT
    go_wp2_with fail
    go_roundw
    case rel => exact ⟨a + 1, by go_num, by omega, HV, trivial⟩
    case measure => simp [RowKit.intOf]; omega
   ·have HE : Hid (Ns.trA ts tz fr = a) := Lib.hid (by rw [HT.out, Ns.trA_end (fun c => hk c.2)])
    have hkb : ((Tk.tk ts a).1 == 1) = false := beq_false_of_ne hk
    clear hk HT
    generalize (Tk.tk ts a).1 = ka at *
    go_wp2_with fail
    clear p0 hkb
    go_loopw [2] (fun v2 wi => ∃ b : Nat, v2 = .int .i64 b /\ b <= tz /\ Hid (Ns.trB ts a tz = Ns.trB ts a b) /\ wi = wr) (fun v2 _ => (RowKit.intOf v2).toNat)
    case atStart => exact ⟨tz, rfl, Nat.le_refl _, Lib.hid rfl, rfl⟩
    case round =>
     obtain ⟨b, rfl, hb, HU, rfl⟩ := hrel
     by_cases hab : a < b
     ·obtain ⟨m, rfl⟩ : ∃ m, b = m + 1 := ⟨b - 1, by omega⟩
      have p1 := HP.out m (by omega)
      have hbt : m < ts.length := by omega
      by_cases hk1 : (Tk.tk ts m).1 = 1
      ·have HV : Hid (Ns.trB ts a tz = Ns.trB ts a m) := Lib.hid (by rw [HU.out, Ns.trB_on ⟨by omega, hk1⟩])
       rw [hk1] at p1
       clear hk1 HU
       go_wp2_with fail
       go_roundw
       case rel => exact ⟨m, by first | rfl | go_num, by omega, HV, trivial⟩
       case measure => simp [RowKit.intOf]; try omega
      ·have HV : Hid (Ns.trB ts a tz = m + 1) := Lib.hid (by rw [HU.out, Ns.trB_end (fun c => hk1 c.2)])
       have hkb : ((Tk.tk ts m).1 == 1) = false := beq_false_of_ne hk1
       clear hk1 HU
       generalize (Tk.tk ts m).1 = kb at *
       go_wp2_with fail
       go_ret2
       exact ⟨by rw [HE.out, HV.out]; try rfl, Below.refl _ _⟩
     ·have HV : Hid (Ns.trB ts a tz = b) := Lib.hid (by rw [HU.out, Ns.trB_low (by omega)])
      clear HU
      go_wp2_with fail
      go_ret2
      exact ⟨by rw [HE.out, HV.out]; try rfl, Below.refl _ _⟩
  ·have HE : Hid (Ns.trA ts tz fr = a) := Lib.hid (by rw [HT.out, Ns.trA_end (fun c => hlt c.1)])
   clear HT
   go_wp2_with fail
   go_loopw [2] (fun v2 wi => ∃ b : Nat, v2 = .int .i64 b /\ b <= tz /\ Hid (Ns.trB ts a tz = Ns.trB ts a b) /\ wi = wr) (fun v2 _ => (RowKit.intOf v2).toNat)
   case atStart => exact ⟨tz, rfl, Nat.le_refl _, Lib.hid rfl, rfl⟩
   case round =>
    obtain ⟨b, rfl, hb, HU, rfl⟩ := hrel
    by_cases hab : a < b
    ·omega
    ·have HV : Hid (Ns.trB ts a tz = b) := Lib.hid (by rw [HU.out, Ns.trB_low (by omega)])
     clear HU
     go_wp2_with fail
     go_ret2
     exact ⟨by rw [HE.out, HV.out]; try rfl, Below.refl _ _⟩
theorem ntrim_nil (A : Option Addr) (ca : Nat) (w : World) :
 Calls Tryz.prog 102 #[.slice A 0 ca, .int .i64 0, .int .i64 0] w (Tw 0 0 w) := by
 have CI : Hid (∀ W, Calls Tryz.prog 163 #[.slice A 0 ca, .int .i64 0, .int .i64 0] W fun e w' => e = .returned (.bool true) /\ W = w') := Lib.hid fun W => nwithin_any [] A ca 0 0 W
 go_enter Tryz.func102, Tryz.ntmps102
 go_wp2_with (go_at_call 163; ((with_reducible refine (CI.out _).mono ?_); rintro e w1 ⟨rfl, rfl⟩))
 go_loopw [1] (fun v1 wr => v1 = .int .i64 0 /\ wr = w) (fun _ _ => 0)
 case atStart => exact ⟨rfl, rfl⟩
 case round =>
  obtain ⟨rfl, rfl⟩ := hrel
  go_wp2_with fail
  go_loopw [2] (fun v2 wi => v2 = .int .i64 0 /\ wi = wr) (fun _ _ => 0)
  case atStart => exact ⟨rfl, rfl⟩
  case round =>
   obtain ⟨rfl, rfl⟩ := hrel
   go_wp2_with fail
   go_ret2
   exact ⟨rfl, Below.refl _ _⟩
theorem ntrim_any (ts : List Tk.Tok) (hm : ts.length <= 65536) (A : Option Addr) (ca : Nat) (fr tz : Nat) (hft : fr <= tz) (hto : tz <= ts.length) (w : World) (h : Ts w w.heap.size A ts) :
 Calls Tryz.prog 102 #[.slice A ts.length ca, .int .i64 fr, .int .i64 tz] w (Tw (Ns.trA ts tz fr) (Ns.trB ts (Ns.trA ts tz fr) tz) w) := by
 by_cases h0 : 0 < ts.length
 ·obtain ⟨bb, off, rfl, _, hp⟩ := h h0
  exact ntrim_some ts hm bb off ca fr tz hft hto w fun j hj => (hp j hj).1
 ·obtain rfl : tz = 0 := by omega
  obtain rfl : fr = 0 := by omega
  have e : ts.length = 0 := by omega
  rw [e, Ns.trA_end (fun c => by omega)]
  exact ntrim_nil A ca w
theorem send_any (ts : List Tk.Tok) (hm : ts.length <= 20000) (A C : Option Addr) (ca cc : Nat) (x y : Nat) (hxy : x < y) (hy : y <= ts.length) (w : World) (h : Sh ts A ca C w) :
 Calls Tryz.prog 53 #[shV A ts.length ca C (Ns.ends ts).length cc, .int .i64 x, .int .i64 y] w (Nu (Ns.fnd (fun i => Rl.stB (decide ((Tk.tk ts x).1 = 4)) (Tk.tk ts i)) (Ns.plc (Ns.ends ts) y x)) w) := by
 obtain ⟨W0, hW⟩ : ∃ W0, W0 = w.alloc (.cells #[.slice A ts.length ca, .slice C (Ns.ends ts).length cc] 58) := ⟨_, rfl⟩
 have hb0 : Below w.heap.size w W0 := by rw [hW]; exact (Below.refl _ _).alloc (Nat.le_refl _) _
 have k0 : W0.heap[w.heap.size]? = some (.cells #[.slice A ts.length ca, .slice C (Ns.ends ts).length cc] 58 (0, 0)) := by rw [hW]; exact heap_alloc_new w _
 obtain ⟨p0, p1⟩ := sh_cells k0
 have hs0 : w.heap.size < W0.heap.size := by rw [hW]; simp
 have CF : Hid (∀ W bk, bk < W.heap.size -> W.cell? ⟨bk, 0, none⟩ = some (.int .i64 (Tk.tk ts x).1) -> Below W0.heap.size W0 W -> Calls Tryz.prog 98 #[.slice A ts.length ca, .slice C (Ns.ends ts).length cc, .int .i64 x, .int .i64 y, endV bk] W (Nu (Ns.fnd (fun i => Rl.stB (decide ((Tk.tk ts x).1 = 4)) (Tk.tk ts i)) (Ns.plc (Ns.ends ts) y x)) W)) :=
  Lib.hid fun W bk hl hk hb => FindE_any ts hm A C ca cc x y (Nat.le_of_lt hxy) hy (Tk.tk ts x).1 bk W hl hk (((h.next hb0).next hb).hts) (((h.next hb0).next hb).hes)
 have CE : Hid (∀ W, Calls Tryz.prog 66 #[.int .i64 (Tk.tk ts x).1] W fun e w' => e = .returned (endV W.heap.size) /\ W.heap.size < w'.heap.size /\ w'.cell? ⟨W.heap.size, 0, none⟩ = some (.int .i64 (Tk.tk ts x).1) /\ Below W.heap.size W w') := Lib.hid fun W => ending_any _ W
 obtain ⟨b, off, rfl, hb, hc⟩ := (h.next hb0).hts (by omega)
 obtain ⟨q0, q1, q2⟩ := hc x (by omega)
 have HB0 := Lib.hid hb0
 have HW := Lib.hid hW.symm
 have hxl : (x : Int) < (ts.length : Int) := by omega
 clear hb0 k0 hW h hc
 generalize Ns.fnd (fun i => Rl.stB (decide ((Tk.tk ts x).1 = 4)) (Tk.tk ts i)) (Ns.plc (Ns.ends ts) y x) = n at *
 generalize Tk.tk ts x = u at *
 unfold shV
 go_enter Tryz.func53, Tryz.ntmps53
 go_upto_region 1 with fail
 rw [HW.out]
 clear HW
 go_region_held3 (fun w' => w'.cell? ⟨w.heap.size, 0, none⟩ = some (.slice (some ⟨b, off, none⟩) ts.length ca) /\ w'.cell? ⟨w.heap.size, 1, none⟩ = some (.slice C (Ns.ends ts).length cc) /\ w'.cell? ⟨b, off + x * 3, none⟩ = some (.int .i64 u.1))
  (first | go_keep | (go_split_ands; exact ⟨(hb1.cell (p := ⟨w.heap.size, 0, none⟩) hs0).trans (by assumption), (hb1.cell (p := ⟨w.heap.size, 1, none⟩) hs0).trans (by assumption), (hb1.cell (p := ⟨b, off + x * 3, none⟩) hb).trans (by assumption)⟩))
  (first | (go_at_call 66; refine (CE.out _).mono ?_; rintro e w1 ⟨rfl, z1, c1, b1⟩; have hb1 : Below W0.heap.size W0 w1 := (Below.refl W0.heap.size W0).drew.trans b1; have HB1 := Lib.hid hb1; have z2 : W0.heap.size < w1.heap.size := z1; have c2 : w1.cell? ⟨W0.heap.size, 0, none⟩ = some (.int .i64 u.1) := c1; clear z1 c1 b1) | (go_at_call 98; refine (CF.out _ _ z2 c2 HB1.out).mono ?_; rintro e w2 ⟨rfl, b2⟩; have hb1 : Below W0.heap.size W0 w2 := HB1.out.trans (b2.mono HB1.out.size); have HB2 := Lib.hid (below_next HB0.out hb1); clear b2))
 go_wp2_with fail
 go_ret
 exact ⟨rfl, HB2.out⟩
theorem ssemi_any (ts : List Tk.Tok) (hm : ts.length <= 20000) (A C : Option Addr) (ca cc : Nat) (x y : Nat) (hxy : x <= y) (hy : y <= ts.length) (w : World) (h : Sh ts A ca C w) :
 Calls Tryz.prog 168 #[shV A ts.length ca C (Ns.ends ts).length cc, .int .i64 x, .int .i64 y] w (Nu (Rl.fo Rl.seB ts x y : Nat) w) := by
 obtain ⟨W0, hW⟩ : ∃ W0, W0 = w.alloc (.cells #[.slice A ts.length ca, .slice C (Ns.ends ts).length cc] 58) := ⟨_, rfl⟩
 have hb0 : Below w.heap.size w W0 := by rw [hW]; exact (Below.refl _ _).alloc (Nat.le_refl _) _
 have k0 : W0.heap[w.heap.size]? = some (.cells #[.slice A ts.length ca, .slice C (Ns.ends ts).length cc] 58 (0, 0)) := by rw [hW]; exact heap_alloc_new w _
 obtain ⟨p0, p1⟩ := sh_cells k0
 have CF := Lib.hid (FindS_any ts hm A C ca cc x y hxy hy W0 (h.next hb0).hts (h.next hb0).hes)
 have HF : Hid (Rl.fo Rl.seB ts x y = if Ns.fnd (fun i => Rl.seB (Tk.tk ts i)) (Ns.plc (Ns.ends ts) y x) = -1 then y else (Ns.fnd (fun i => Rl.seB (Tk.tk ts i)) (Ns.plc (Ns.ends ts) y x)).toNat) := Lib.hid rfl
 have hra := Rl.fnd_range (fun i => Rl.seB (Tk.tk ts i)) (Ns.plc (Ns.ends ts) y x)
 have HB0 := Lib.hid hb0
 have HW := Lib.hid hW.symm
 clear hb0 k0 hW h
 generalize Ns.fnd (fun i => Rl.seB (Tk.tk ts i)) (Ns.plc (Ns.ends ts) y x) = n at *
 generalize Rl.fo Rl.seB ts x y = r at *
 unfold shV
 by_cases hn : n < 0
 ·have HR : Hid (r = y) := Lib.hid (by rw [HF.out, if_pos (by omega)])
  have d1 : decide (n < 0) = true := decide_eq_true hn
  clear HF hra
  go_enter Tryz.func168, Tryz.ntmps168
  go_upto_region 1 with fail
  rw [HW.out]
  clear HW
  go_wp2_with (go_at_call 98; ((with_reducible refine (CF.out).mono ?_); rintro e w1 ⟨rfl, b1⟩; have HB1 := Lib.hid (below_next HB0.out b1); clear b1))
  go_ret
  exact ⟨by rw [HR.out]; rfl, HB1.out⟩
 ·have HR : Hid ((r : Int) = n) := Lib.hid (by rw [HF.out, if_neg (by omega)]; omega)
  have d1 : decide (n < 0) = false := decide_eq_false hn
  clear HF hra
  go_enter Tryz.func168, Tryz.ntmps168
  go_upto_region 1 with fail
  rw [HW.out]
  clear HW
  go_wp2_with (go_at_call 98; ((with_reducible refine (CF.out).mono ?_); rintro e w1 ⟨rfl, b1⟩; have HB1 := Lib.hid (below_next HB0.out b1); clear b1))
  go_ret
  exact ⟨by rw [HR.out]; rfl, HB1.out⟩
theorem bang_test (t : ByteArray) : (t.toList == [33]) = decide (t = ⟨#[33]⟩) := str_test t 33
theorem imp_test (t : ByteArray) : (t.toList == [105, 109, 112, 111, 114, 116, 97, 110, 116]) = decide (t = Rl.impS) := by
 rw [<- str_same, show Rl.impS.toList = [105, 109, 112, 111, 114, 116, 97, 110, 116] from by unfold Rl.impS; rw [Lib.toList_data]]
theorem marking_any (v : List Tk.Tok) (hF : Pr.FairB v) (hE : Rl.Edge v) (A : Option Addr) (ca : Nat) (w : World) (h : Ts w w.heap.size A v) :
 Calls Tryz.prog 128 #[.slice A v.length ca] w (Nu (Rl.mrk v) w) := by
 have hm := hF.1
 by_cases h2 : 2 <= v.length
 ·obtain ⟨bb, off, rfl, hbb, hp⟩ := h (by omega)
  have HI := Lib.hid (Rl.imp_iff hE h2)
  have HMY : Hid (Rl.Imp v -> Rl.mrk v = (Ns.trB v 0 (v.length - 1) : Int) - 1) := Lib.hid fun h => by unfold Rl.mrk; rw [if_pos h]
  have HMN : Hid (¬ Rl.Imp v -> Rl.mrk v = -1) := Lib.hid fun h => by unfold Rl.mrk; rw [if_neg h]
  obtain ⟨_, hB0, hB1⟩ := Rl.ahead_is hE h2
  have CT : Hid (∀ W, Below w.heap.size w W -> Calls Tryz.prog 102 #[.slice (some ⟨bb, off, none⟩) v.length ca, .int .i64 0, .int .i64 ((v.length : Int) - 1)] W (Tw 0 (Ns.trB v 0 (v.length - 1) : Nat) W)) := Lib.hid fun W hb => by
   have := ntrim_any v (by omega) (some ⟨bb, off, none⟩) ca 0 (v.length - 1) (Nat.zero_le _) (by omega) W (h.next hb)
   rw [Rl.trA_0 (Rl.edge_0 hE (by omega))] at this
   rwa [show ((v.length - 1 : Nat) : Int) = (v.length : Int) - 1 by omega] at this
  have hz := tk_size hF (a := v.length - 1) (by omega)
  have CL : Hid (∀ W, Calls Tryz.prog 42 #[.string (Tk.tk v (v.length - 1)).2.1] W (Sg (Ru.lowS (Tk.tk v (v.length - 1)).2.1) W)) := Lib.hid fun W => lower_any _ W hz
  obtain ⟨p0, p1, _⟩ := hp (v.length - 1) (by omega)
  obtain ⟨B, hBe⟩ : ∃ B, Ns.trB v 0 (v.length - 1) = B + 1 := ⟨Ns.trB v 0 (v.length - 1) - 1, by omega⟩
  rw [hBe] at hB0 hB1 CT
  rw [hBe, Nat.add_sub_cancel] at HI
  rw [hBe] at HMY
  obtain ⟨q0, q1, _⟩ := hp B (by omega)
  have ht := imp_test (Ru.lowS (Tk.tk v (v.length - 1)).2.1)
  have hbt := bang_test (Tk.tk v B).2.1
  have hsub : IntKind.i64.wrap ((v.length : Int) - 1) = (v.length : Int) - 1 := IntWalk.i64_in _ (by omega)
  have hsn : ((v.length : Int) - 1).toNat = v.length - 1 := by omega
  have hsb : (0 : Int) <= (v.length : Int) - 1 := by omega
  have hsl : (v.length : Int) - 1 < (v.length : Int) := by omega
  have d1 : decide ((v.length : Int) - 1 < 1) = false := decide_eq_false (by omega)
  have hBl : (B : Int) < (v.length : Int) := by omega
  clear hp h hE hF hz
  by_cases k2 : (Tk.tk v (v.length - 1)).1 = 2
  ·rw [k2] at p0
   by_cases kt : Ru.lowS (Tk.tk v (v.length - 1)).2.1 = Rl.impS
   ·rw [decide_eq_true kt] at ht
    by_cases k3 : (Tk.tk v B).1 = 11
    ·rw [k3] at q0
     by_cases k4 : (Tk.tk v B).2.1 = ⟨#[33]⟩
     ·rw [decide_eq_true k4] at hbt
      have HV : Hid (Rl.mrk v = (B : Int)) := Lib.hid (by rw [HMY.out (HI.out.2 ⟨k2, kt, k3, k4⟩)]; omega)
      clear k2 kt k3 k4 HI HMY HMN hBe
      generalize Ru.lowS (Tk.tk v (v.length - 1)).2.1 = lo at *
      generalize (Tk.tk v (v.length - 1)).2.1 = t1 at *
      generalize (Tk.tk v B).2.1 = t2 at *
      go_enter Tryz.func128, Tryz.ntmps128
      go_wp2_with (first | (go_at_call 42; ((with_reducible refine (CL.out _).mono ?_); rintro e w1 ⟨rfl, b1⟩; have HB1 := Lib.hid b1; clear b1)) | (go_at_call 102; ((with_reducible refine (CT.out _ HB1.out).mono ?_); rintro e w2 ⟨rfl, b2⟩; have hb2 := below_next HB1.out b2; have HB2 := Lib.hid hb2; have r0 := (hb2.cell (p := ⟨bb, off + B * 3, none⟩) hbb).trans q0; have r1 := (hb2.cell (p := ⟨bb, off + B * 3 + 1, none⟩) hbb).trans q1; clear b2 hb2)))
      go_ret
      exact ⟨by rw [HV.out]; rfl, HB2.out⟩
     ·rw [decide_eq_false k4] at hbt
      have HV := Lib.hid (HMN.out (fun c => k4 (HI.out.1 c).2.2.2))
      clear k2 kt k3 k4 HI HMY HMN hBe
      generalize Ru.lowS (Tk.tk v (v.length - 1)).2.1 = lo at *
      generalize (Tk.tk v (v.length - 1)).2.1 = t1 at *
      generalize (Tk.tk v B).2.1 = t2 at *
      go_enter Tryz.func128, Tryz.ntmps128
      go_wp2_with (first | (go_at_call 42; ((with_reducible refine (CL.out _).mono ?_); rintro e w1 ⟨rfl, b1⟩; have HB1 := Lib.hid b1; clear b1)) | (go_at_call 102; ((with_reducible refine (CT.out _ HB1.out).mono ?_); rintro e w2 ⟨rfl, b2⟩; have hb2 := below_next HB1.out b2; have HB2 := Lib.hid hb2; have r0 := (hb2.cell (p := ⟨bb, off + B * 3, none⟩) hbb).trans q0; have r1 := (hb2.cell (p := ⟨bb, off + B * 3 + 1, none⟩) hbb).trans q1; clear b2 hb2)))
      go_ret
      exact ⟨by rw [HV.out]; rfl, HB2.out⟩
    ·have HV := Lib.hid (HMN.out (fun c => k3 (HI.out.1 c).2.2.1))
     have k3b : ((Tk.tk v B).1 != 11) = true := Ru.ne_t k3
     have k3e : ((Tk.tk v B).1 == 11) = false := beq_false_of_ne k3
     clear k2 kt k3 HI HMY HMN hBe hbt
     generalize Ru.lowS (Tk.tk v (v.length - 1)).2.1 = lo at *
     generalize (Tk.tk v (v.length - 1)).2.1 = t1 at *
     generalize (Tk.tk v B).1 = kd at *
     go_enter Tryz.func128, Tryz.ntmps128
     go_wp2_with (first | (go_at_call 42; ((with_reducible refine (CL.out _).mono ?_); rintro e w1 ⟨rfl, b1⟩; have HB1 := Lib.hid b1; clear b1)) | (go_at_call 102; ((with_reducible refine (CT.out _ HB1.out).mono ?_); rintro e w2 ⟨rfl, b2⟩; have hb2 := below_next HB1.out b2; have HB2 := Lib.hid hb2; have r0 := (hb2.cell (p := ⟨bb, off + B * 3, none⟩) hbb).trans q0; clear b2 hb2)))
     go_ret
     exact ⟨by rw [HV.out]; rfl, HB2.out⟩
   ·rw [decide_eq_false kt] at ht
    have HV := Lib.hid (HMN.out (fun c => kt (HI.out.1 c).2.1))
    clear k2 kt HI HMY HMN hBe hbt CT
    generalize Ru.lowS (Tk.tk v (v.length - 1)).2.1 = lo at *
    generalize (Tk.tk v (v.length - 1)).2.1 = t1 at *
    go_enter Tryz.func128, Tryz.ntmps128
    go_wp2_with (go_at_call 42; ((with_reducible refine (CL.out _).mono ?_); rintro e w1 ⟨rfl, b1⟩; have HB1 := Lib.hid b1; clear b1))
    go_ret
    exact ⟨by rw [HV.out]; rfl, HB1.out⟩
  ·have HV := Lib.hid (HMN.out (fun c => k2 (HI.out.1 c).1))
   have k2b : ((Tk.tk v (v.length - 1)).1 != 2) = true := Ru.ne_t k2
   have k2e : ((Tk.tk v (v.length - 1)).1 == 2) = false := beq_false_of_ne k2
   clear k2 HI HMY HMN hBe hbt ht CT CL
   generalize (Tk.tk v (v.length - 1)).1 = kd at *
   go_enter Tryz.func128, Tryz.ntmps128
   go_wp2_with fail
   go_ret
   exact ⟨by rw [HV.out]; rfl, Below.refl _ _⟩
 ·have HV : Hid (Rl.mrk v = -1) := Lib.hid (Rl.mrk_no (fun c => h2 (Rl.imp_two c))).1
  have hsub : IntKind.i64.wrap ((v.length : Int) - 1) = (v.length : Int) - 1 := IntWalk.i64_in _ (by omega)
  have d1 : decide ((v.length : Int) - 1 < 1) = true := decide_eq_true (by omega)
  clear h hF hE
  go_enter Tryz.func128, Tryz.ntmps128
  go_wp2_with fail
  go_ret
  exact ⟨by rw [HV.out]; rfl, Below.refl _ _⟩
def SdK (sd : List Tk.Tok -> Bool) : Prop := ∀ (v : List Tk.Tok), Pr.FairB v -> Pr.Wf v -> ∀ (A : Option Addr) (cap : Nat) (W : World), v.length <= cap -> Ts W W.heap.size A v -> PTab W.heap.size W -> Calls Tryz.prog 19 #[.slice A v.length cap] W (Bo (sd v) W)
end Go.Proofs.YtllmjggejbdpcaaGreatDoor
