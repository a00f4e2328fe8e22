/-
  The walks of a sheet's rules, and of package rules' Parse.
-/
import Derived.Test.YtkcabpjfgbghjaaGreatDoorGan
import Derived.Test.YtkcabpjfgbghjaaGreatDoorGag
import Derived.Test.YtkcabpjfgbghjaaGreatDoorGad
import Derived.Test.YtkcabpjfgbghjaaGreatDoorGaa
import Derived.Test.YtkcabpjfgbghjaaGreatDoorGac
import Derived.Deep.RegionWith
import Derived.Deep.DeepCutAuto
import Derived.Deep.LoopGhost
import Derived.LoopTactic
import Derived.BigQuiet
import Derived.Deep.QuietTactic
import Derived.IntWalk
import Derived.Test.YtkcabpjfgbghjaaGreatDoorGae
set_option maxHeartbeats 16000000
set_option maxRecDepth 100000
namespace Go.Proofs.YtkcabpjfgbghjaaGreatDoor
open Go.RowKit
namespace Rl
open Tk Ns
def frAt (ts : List Tok) (a : Nat) : Nat := if isAt ts a = true then a + 1 else a
theorem endAt_fo (ts : List Tok) (a : Nat) : endAt ts a = fo (stB (isAt ts a)) ts (frAt ts a) ts.length := rfl
theorem prs_ruleO {sd : List Tok -> Bool} {ts : List Tok} {a : Nat} (h : a < ts.length) (h1 : (tk ts a).1 ≠ 1) (he : endAt ts a < ts.length) :
 prs sd ts a = (match ruleO sd ts a (endAt ts a) with | some r => [r] | none => []) ++ prs sd ts (sk (ends ts) (endAt ts a)) := by
 have hst : stB (isAt ts a) (tk ts (endAt ts a)) = true := fo_is (show fo (stB (isAt ts a)) ts (frAt ts a) ts.length < ts.length from he)
 have h12 : (tk ts (endAt ts a)).1 = 12 ↔ brB (tk ts (endAt ts a)) = true := by
  constructor
  ·intro c
   unfold stB at hst
   have h2 : seB (tk ts (endAt ts a)) = false := decide_eq_false (by omega)
   rw [h2, Bool.and_false, Bool.or_false] at hst
   exact hst
  ·intro c
   exact (of_decide_eq_true c : (tk ts (endAt ts a)).1 = 12 /\ (tk ts (endAt ts a)).2.1 = ⟨#[123]⟩).1
 by_cases hr : isRule sd ts a
 ·have hr2 := hr
  unfold isRule at hr2
  have hb := h12.1 hr2.2.1
  have hg := ends_opens he (brB_opens hb)
  have e : ruleO sd ts a (endAt ts a) = some ((if isAt ts a = true then 2 else 1), trim (sub ts (if isAt ts a = true then a + 1 else a) (endAt ts a)), (blk sd ts (isAt ts a) (endAt ts a + 1) (Ru.g (ends ts) (endAt ts a)).toNat).1, (blk sd ts (isAt ts a) (endAt ts a + 1) (Ru.g (ends ts) (endAt ts a)).toNat).2) := by
   unfold ruleO
   exact if_pos ⟨hb, hr2.2.2.1, hr2.2.2.2⟩
  rw [prs_rule sd ts h h1 hr (by omega), e]
  rfl
 ·rw [prs_no sd ts h h1 hr]
  have e : ruleO sd ts a (endAt ts a) = none := by
   unfold ruleO
   exact if_neg (fun c => hr (by unfold isRule; exact ⟨he, h12.2 c.1, c.2.1, c.2.2⟩))
  rw [e]
  rfl
theorem prs_last {sd : List Tok -> Bool} {ts : List Tok} {a : Nat} (h : a < ts.length) (h1 : (tk ts a).1 ≠ 1) (he : endAt ts a = ts.length) : prs sd ts a = [] := by
 have hs := sk_gt (ends ts) (endAt ts a)
 rw [prs_no sd ts h h1 (fun c => by unfold isRule at c; omega), prs_end sd ts (by omega)]
end Rl
theorem toldRu_sl {o : Option Rl.Rule} {w : World} {e : Ending} {w' : World} (h : ToldRu o w e w') :
 ∃ (r : Rl.Rule) (b : Bool) (A1 : Option Addr) (c1 : Nat) (A2 : Option Addr) (c2 : Nat) (A3 : Option Addr) (c3 : Nat), e = .returned (.tuple #[.agg #[.int .i64 r.1, .slice A1 r.2.1.length c1, .slice A2 r.2.2.1.length c2, .slice A3 r.2.2.2.length c3], .bool b]) /\
   Rl.SlQ (some 61) 3 Rl.TokQ w' r.2.1 [.slice A1 r.2.1.length c1] /\ Rl.SlQ (some 42) 3 (Rl.DecQ true) w' r.2.2.1 [.slice A2 r.2.2.1.length c2] /\ Rl.SlQ (some 49) 2 (Rl.MarQ true) w' r.2.2.2 [.slice A3 r.2.2.2.length c3] /\ Below w.heap.size w w' /\ o = if b = true then some r else none := by
 obtain ⟨r, b, v1, v2, v3, he, g1, g2, g3, hb, ho⟩ := h
 have g1' := g1
 have g2' := g2
 have g3' := g3
 obtain ⟨A1, c1, e1, _⟩ := g1'
 obtain ⟨A2, c2, e2, _⟩ := g2'
 obtain ⟨A3, c3, e3, _⟩ := g3'
 injection e1 with e1
 injection e2 with e2
 injection e3 with e3
 subst e1 e2 e3
 exact ⟨r, b, A1, c1, A2, c2, A3, c3, he, g1, g2, g3, hb, ho⟩
def ToldRs (l : List Rl.Rule) (w : World) (e : Ending) (w' : World) : Prop :=
 ∃ (A : Option Addr) (cap : Nat), e = .returned (.slice A l.length cap) /\ l.length <= cap /\ Rl.Cells 4 (Rl.RulQ true) w' A l /\ Rl.Tyd (some 47) w' A /\ Below w.heap.size w w'
def RsAt (sd : List Tk.Tok -> Bool) (ts : List Tk.Tok) (w : World) (v3 v4 : Value) (wr : World) : Prop :=
 ∃ (k : Nat) (rs : List Rl.Rule), k <= ts.length + 1 /\ rs.length <= k /\ v4 = .int .i64 k /\ Hid (Rl.prs sd ts 0 = rs ++ Rl.prs sd ts k) /\ Hid (Rl.Gr 47 4 (Rl.RulQ true) w v3 rs wr)
theorem toldRs_of {w w0 wr : World} {v : Value} {rs : List Rl.Rule} (hb : Below w.heap.size w w0) (h : Rl.Gr 47 4 (Rl.RulQ true) w0 v rs wr) : ToldRs rs w (.returned v) wr := by
 obtain ⟨A, cap, rfl, hc, hC, hT⟩ := h.form
 exact ⟨A, cap, rfl, hc, hC, hT, below_next hb h.bel⟩
theorem srules_any (sd : List Tk.Tok -> Bool) (hsd : SdK sd) (ts : List Tk.Tok) (hF : Pr.FairB ts) (hwf : Pr.Wf ts) (A C : Option Addr) (ca cc : Nat) (w : World) (h : Sh ts A ca C w) (hT : PTab w.heap.size w) (hB : BTab w.heap.size w) :
 Calls Tryz.prog 30 #[shV A ts.length ca C (Ns.ends ts).length cc] w (ToldRs (Rl.parse sd ts) w) := by
 have hm := hF.1
 have HEL := Lib.hid (Ns.ends_len ts)
 have HP0' := Lib.hid (Rl.prs_0 sd ts)
 obtain ⟨W0, hW⟩ : ∃ W0, W0 = w.alloc (.cells #[.slice A ts.length ca, .slice C (Ns.ends ts).length cc] 58) := ⟨_, rfl⟩
 have hb0 : Below w.heap.size w W0 := by rw [hW]; exact (Below.refl _ _).alloc (Nat.le_refl _) _
 have k0 : W0.heap[w.heap.size]? = some (.cells #[.slice A ts.length ca, .slice C (Ns.ends ts).length cc] 58 (0, 0)) := by rw [hW]; exact heap_alloc_new w _
 obtain ⟨p0, p1⟩ := sh_cells k0
 have hs0 : w.heap.size < W0.heap.size := by rw [hW]; simp
 have HB0 := Lib.hid hb0
 have HW := Lib.hid hW.symm
 have HS := Lib.hid (h.next hb0)
 have HT := Lib.hid (hT.next hb0)
 have HBT := Lib.hid (hB.next hb0)
 have HP0 := Lib.hid p0
 have HP1 := Lib.hid p1
 clear hb0 k0 hW h hT hB p0 p1
 unfold shV
 go_enter Tryz.func30, Tryz.ntmps30
 go_upto_region 1 with fail
 rw [HW.out]
 clear HW
 go_wp2_with fail
 go_loopw [3, 4] (fun v3 v4 wr => RsAt sd ts W0 v3 v4 wr) (fun _ v4 _ => ts.length - (RowKit.intOf v4).toNat)
 case atStart => exact ⟨0, [], Nat.zero_le _, Nat.le_refl _, rfl, Lib.hid rfl, Lib.hid (Rl.Gr.start (Below.refl _ _))⟩
 case round =>
  obtain ⟨k, rs, hk, hrs, rfl, HV, HG⟩ := hrel
  have HBR := Lib.hid HG.out.bel
  have s0 := (HBR.out.cell (p := ⟨w.heap.size, 0, none⟩) hs0).trans HP0.out
  have s1 := (HBR.out.cell (p := ⟨w.heap.size, 1, none⟩) hs0).trans HP1.out
  by_cases hlt : k < ts.length
  ·have hkli : (k : Int) < (ts.length : Int) := by omega
   obtain ⟨b, off, rfl, hbb, hpp⟩ := HS.out.hts (by omega)
   obtain ⟨q0, _, _⟩ := hpp k hlt
   replace q0 := (HBR.out.cell (p := ⟨b, off + k * 3, none⟩) hbb).trans q0
   clear hpp
   by_cases h1 : (Tk.tk ts k).1 = 1
   ·have HN : Hid (Rl.prs sd ts 0 = rs ++ Rl.prs sd ts (k + 1)) := Lib.hid (by rw [HV.out, Rl.prs_sp sd ts hlt h1])
    rw [h1] at q0
    clear h1 HV
    go_wp2_with fail
    go_roundw
    case rel => exact ⟨k + 1, rs, by omega, by omega, by go_num, HN, HG⟩
    case measure => simp [RowKit.intOf]; omega
   ·have n1 : ((Tk.tk ts k).1 == 1) = false := beq_false_of_ne h1
    have hfr : Rl.frAt ts k <= ts.length /\ k <= Rl.frAt ts k /\ (Rl.isAt ts k = true -> Rl.frAt ts k = k + 1) := by
     unfold Rl.frAt
     by_cases c : Rl.isAt ts k = true
     ·rw [if_pos c]; exact ⟨by omega, by omega, fun _ => rfl⟩
     ·rw [if_neg c]; exact ⟨by omega, by omega, fun c2 => absurd c2 c⟩
    have CE : Hid (Calls Tryz.prog 54 #[.agg #[.slice (some ⟨b, off, none⟩) ts.length ca, .slice C (Ns.ends ts).length cc], .int .i64 k, .int .i64 ts.length] wr (Nu (Ns.fnd (fun x => Rl.stB (Rl.isAt ts k) (Tk.tk ts x)) (Ns.plc (Ns.ends ts) ts.length (Rl.frAt ts k))) wr)) := Lib.hid (by
     have := send_any ts (by omega) (some ⟨b, off, none⟩) C ca cc k ts.length hlt (Nat.le_refl _) wr (HS.out.next HBR.out)
     by_cases c : (Tk.tk ts k).1 = 4
     ·have c2 : Rl.isAt ts k = true := decide_eq_true c
      rw [decide_eq_true c, Rl.fnd_at hlt (Nat.le_refl _) c] at this
      rw [hfr.2.2 c2, c2]
      exact this
     ·have c2 : Rl.isAt ts k = false := decide_eq_false c
      rw [decide_eq_false c] at this
      have e : Rl.frAt ts k = k := by unfold Rl.frAt; rw [c2]; rfl
      rw [e, c2]
      exact this)
    have hfo : Rl.endAt ts k = if Ns.fnd (fun x => Rl.stB (Rl.isAt ts k) (Tk.tk ts x)) (Ns.plc (Ns.ends ts) ts.length (Rl.frAt ts k)) = -1 then ts.length else (Ns.fnd (fun x => Rl.stB (Rl.isAt ts k) (Tk.tk ts x)) (Ns.plc (Ns.ends ts) ts.length (Rl.frAt ts k))).toNat := rfl
    have hra := Rl.fnd_range (fun x => Rl.stB (Rl.isAt ts k) (Tk.tk ts x)) (Ns.plc (Ns.ends ts) ts.length (Rl.frAt ts k))
    have hfb := Rl.fo_bd (Rl.stB (Rl.isAt ts k)) ts hfr.1
    rw [<- Rl.endAt_fo] at hfb
    have HMem : Hid (Ns.fnd (fun x => Rl.stB (Rl.isAt ts k) (Tk.tk ts x)) (Ns.plc (Ns.ends ts) ts.length (Rl.frAt ts k)) ≠ -1 -> Rl.endAt ts k < ts.length) := Lib.hid fun hne => by
     obtain ⟨x, hx, e, _⟩ := Rl.fnd_mem hne
     have hx2 := Ns.plc_mem _ (Nat.le_refl _) hx
     rw [hfo, if_neg hne, e, Int.toNat_natCast]; exact hx2.2
    generalize Ns.fnd (fun x => Rl.stB (Rl.isAt ts k) (Tk.tk ts x)) (Ns.plc (Ns.ends ts) ts.length (Rl.frAt ts k)) = fa at *
    by_cases hfa : fa < 0
    ·have d1 : decide (fa < 0) = true := decide_eq_true hfa
     have HN : Hid (Rl.prs sd ts 0 = rs) := Lib.hid (by rw [HV.out, Rl.prs_last hlt h1 (by rw [hfo, if_pos (by omega)]), List.append_nil])
     clear hfo hra HMem hfb hfr h1 HV
     generalize (Tk.tk ts k).1 = kk at *
     go_wp2_with (go_at_call 54; ((with_reducible refine (CE.out).mono ?_); rintro e w1 ⟨rfl, b1⟩; have HB1 := Lib.hid b1; clear b1))
     have HR := Lib.hid (toldRs_of HB0.out (HG.out.next (Rl.keeps_rul true) HB1.out))
     go_ret
     rw [HP0'.out, HN.out]; exact HR.out
    ·obtain ⟨m, rfl⟩ : ∃ m : Nat, fa = m := ⟨fa.toNat, by omega⟩
     have d1 : decide ((m : Int) < 0) = false := decide_eq_false hfa
     have hem : Rl.endAt ts k = m := by rw [hfo, if_neg (by omega)]; rfl
     have hle : m < ts.length := by have := HMem.out (by omega); omega
     have hkm : k <= m := by omega
     have hatm : Rl.isAt ts k = true -> k < m := fun c => by have := hfr.2.2 c; omega
     have HPR := Lib.hid (Rl.prs_ruleO (sd := sd) hlt h1 (by omega))
     rw [hem] at HPR
     have CR : Hid (∀ W, Below W0.heap.size W0 W -> Calls Tryz.prog 55 #[.agg #[.slice (some ⟨b, off, none⟩) ts.length ca, .slice C (Ns.ends ts).length cc], .int .i64 k, .int .i64 m] W (ToldRu (Rl.ruleO sd ts k m) W)) := Lib.hid fun W hb => srule_any sd hsd ts hF hwf (some ⟨b, off, none⟩) C ca cc k m hlt hkm hle hatm W (HS.out.next hb) (HT.out.next hb) (HBT.out.next hb)
     have hs0' := Ns.sk_gt (Ns.ends ts) m
     have hs1 : Ns.sk (Ns.ends ts) m <= ts.length := by
      have := Ns.sk_le (es := Ns.ends ts) (a := m) (by rw [HEL.out]; exact hle)
      rw [HEL.out] at this; exact this
     have CS : Hid (∀ W, Below W0.heap.size W0 W -> Calls Tryz.prog 56 #[.slice C (Ns.ends ts).length cc, .int .i64 m] W (Nu (Ns.sk (Ns.ends ts) m : Nat) W)) := Lib.hid fun W hb => by
      rw [Ns.sk_eq]; exact skipC _ (Ns.ends_fit (by omega)) (Ns.ends_lead ts) C cc m (by omega) W (HS.out.next hb).hes
     clear hfo hra HMem hfb hfr h1 hem hatm
     generalize HRO : Rl.ruleO sd ts k m = ro at *
     clear HRO
     generalize HN9 : Ns.sk (Ns.ends ts) m = n9 at *
     clear HN9
     generalize (Tk.tk ts k).1 = kk at *
     go_upto_region 9 with (first | (go_at_call 54; ((with_reducible refine (CE.out).mono ?_); rintro e w1 ⟨rfl, b1⟩; have HB1 := Lib.hid b1; have HBW1 := Lib.hid (below_next HBR.out b1); have s10 := (HBW1.out.cell (p := ⟨w.heap.size, 0, none⟩) hs0).trans HP0.out; have s11 := (HBW1.out.cell (p := ⟨w.heap.size, 1, none⟩) hs0).trans HP1.out; clear b1)) | (go_at_call 55; ((with_reducible refine (CR.out _ HBW1.out).mono ?_); rintro e w2 h2; obtain ⟨r, bb, A1, c1, A2, c2, A3, c3, rfl, g1, g2, g3, b2, hres⟩ := toldRu_sl h2; have HB2 := Lib.hid (below_next HB1.out b2); have HG1 := Lib.hid g1; have HG2 := Lib.hid g2; have HG3 := Lib.hid g3; have HRES := Lib.hid hres; clear b2 g1 g2 g3 hres h2)))
     have k3 := heap_alloc_new w2 (.cells #[.int .i64 r.1, .slice A1 r.2.1.length c1, .slice A2 r.2.2.1.length c2, .slice A3 r.2.2.2.length c3] 47)
     have bn := (Below.refl w2.heap.size w2).alloc (Nat.le_refl _) (.cells #[.int .i64 r.1, .slice A1 r.2.1.length c1, .slice A2 r.2.2.1.length c2, .slice A3 r.2.2.2.length c3] 47)
     generalize w2.alloc (.cells #[.int .i64 r.1, .slice A1 r.2.1.length c1, .slice A2 r.2.2.1.length c2, .slice A3 r.2.2.2.length c3] 47) = w3 at k3 bn ⊢
     obtain ⟨⟨y0, y1, y2, y3⟩, _⟩ := Rl.four_cells k3
     have HB3 := Lib.hid (below_next HB2.out bn)
     have HBW3 := Lib.hid (below_next HBR.out HB3.out)
     have s30 := (HBW3.out.cell (p := ⟨w.heap.size, 0, none⟩) hs0).trans HP0.out
     have s31 := (HBW3.out.cell (p := ⟨w.heap.size, 1, none⟩) hs0).trans HP1.out
     have HQ1 := Lib.hid (Rl.keeps_sl Rl.keeps_tok _ _ _ _ HG1.out bn)
     have HQ2 := Lib.hid (Rl.keeps_sl (Rl.keeps_dec true) _ _ _ _ HG2.out bn)
     have HQ3 := Lib.hid (Rl.keeps_sl (Rl.keeps_mar true) _ _ _ _ HG3.out bn)
     have HGr := Lib.hid (HG.out.next (Rl.keeps_rul true) HB3.out)
     clear k3 bn q0 HG1 HG2 HG3
     cases bb
     ·have HN : Hid (Rl.prs sd ts 0 = rs ++ Rl.prs sd ts n9) := Lib.hid (by rw [HV.out, HPR.out, HRES.out]; rfl)
      clear HV HPR HRES CR CE
      go_wp2_with (go_at_call 56; ((with_reducible refine (CS.out _ HBW3.out).mono ?_); rintro e w9 ⟨rfl, b9⟩; have HB9 := Lib.hid b9; clear b9))
      go_roundw
      case rel => exact ⟨n9, rs, by omega, by omega, by go_num, HN, Lib.hid (HGr.out.next (Rl.keeps_rul true) HB9.out)⟩
      case measure => simp [RowKit.intOf]; omega
     ·have HN : Hid (Rl.prs sd ts 0 = (rs ++ [r]) ++ Rl.prs sd ts n9) := Lib.hid (by rw [HV.out, HPR.out, HRES.out]; simp)
      have hdl : (rs ++ [r]).length <= n9 := by rw [List.length_append]; simp only [List.length_cons, List.length_nil]; omega
      clear HV HPR HRES CR CE
      go_wp2_with (first | (at_builtin; refine app_rul rfl _ _ rfl rfl HGr.out r _ _ _ HQ1.out HQ2.out HQ3.out _ _ rfl (by omega) ?_; intro v' w4 G1; have HG4 := Lib.hid G1; have HBW4 := Lib.hid G1.bel; have s40 := (HBW4.out.cell (p := ⟨w.heap.size, 0, none⟩) hs0).trans HP0.out; have s41 := (HBW4.out.cell (p := ⟨w.heap.size, 1, none⟩) hs0).trans HP1.out; clear G1) | (go_at_call 56; ((with_reducible refine (CS.out _ HBW4.out).mono ?_); rintro e w9 ⟨rfl, b9⟩; have HB9 := Lib.hid b9; clear b9)))
      go_roundw
      case rel => exact ⟨n9, rs ++ [r], by omega, hdl, by go_num, HN, Lib.hid (HG4.out.next (Rl.keeps_rul true) HB9.out)⟩
      case measure => simp [RowKit.intOf]; omega
  ·have HN : Hid (Rl.prs sd ts 0 = rs) := Lib.hid (by rw [HV.out, Rl.prs_end sd ts hlt, List.append_nil])
   have HR := Lib.hid (toldRs_of HB0.out HG.out)
   clear HV HG
   go_wp2_with fail
   go_ret
   rw [HP0'.out, HN.out]; exact HR.out
def ParC (sd : List Tk.Tok -> Bool) (ts : List Tk.Tok) (l : List Rl.Rule) (er : Int) : Prop :=
 (Ns.deep ts /\ l = [] /\ er = 3) ∨ (¬ Ns.deep ts /\ 1024 < (Rl.parse sd ts).length /\ l = [] /\ er = 2) ∨ (¬ Ns.deep ts /\ (Rl.parse sd ts).length <= 1024 /\ l = Rl.parse sd ts /\ er = 0)
theorem cparse_any (sd : List Tk.Tok -> Bool) (hsd : SdK sd) (ts : List Tk.Tok) (hF : Pr.FairB ts) (hwf : Pr.Wf ts) (l : List Rl.Rule) (er : Int) (hl : ParC sd ts l er) (A0 : Option Addr) (n0 cap0 : Nat) (w : World) (hT : PTab w.heap.size w) (hB : BTab w.heap.size w)
 (hS : Calls Tryz.prog 28 #[.slice A0 n0 cap0] w (Told3 ts w)) : Calls Tryz.prog 11 #[.slice A0 n0 cap0] w (ToldR l er w) := by
 have hm := hF.1
 have CS := Lib.hid hS
 have HL := Lib.hid hl
 have HT := Lib.hid hT
 have HB := Lib.hid hB
 have CE : Hid (∀ (A : Option Addr) (c : Nat) (W : World), Ts W W.heap.size A ts -> Calls Tryz.prog 29 #[.slice A ts.length c] W (EndsIs ts W)) := Lib.hid fun A c W h => nends_code ts (by omega) A c W h
 clear hS hl hT hB
 by_cases hd : Ns.deep ts
 ·have HV : Hid (l = [] /\ er = 3) := Lib.hid (by rcases HL.out with h | h | h; exact h.2; exact absurd hd h.1; exact absurd hd h.1)
  have CE2 : Hid (∀ (A : Option Addr) (c : Nat) (W : World), Ts W W.heap.size A ts -> Calls Tryz.prog 29 #[.slice A ts.length c] W (EndsBad W)) := Lib.hid fun A c W h => (CE.out A c W h).mono fun e w' h => h.2 hd
  clear CE hF hsd HL hwf
  go_enter Tryz.func11, Tryz.ntmps11
  go_wp2_with (first | (go_at_call 28; ((with_reducible refine (CS.out).mono ?_); rintro e w1 ⟨A1, c1, rfl, hc1, T1, b1⟩; have HB1 := Lib.hid b1; have HT1 := Lib.hid T1; clear b1 T1)) | (go_at_call 29; ((with_reducible refine (CE2.out _ _ _ HT1.out).mono ?_); rintro e w2 ⟨rfl, b2⟩; have HB2 := Lib.hid (below_next HB1.out b2); clear b2)))
  go_ret2
  obtain ⟨e1, e2⟩ := HV.out
  subst e1 e2
  exact told_none 3 HB2.out
 ·have CE2 : Hid (∀ (A : Option Addr) (c : Nat) (W : World), Ts W W.heap.size A ts -> Calls Tryz.prog 29 #[.slice A ts.length c] W (EndsRd ts W)) := Lib.hid fun A c W h => (CE.out A c W h).mono fun e w' h => ends_rd (h.1 hd)
  have CR : Hid (∀ (A C : Option Addr) (ca cc : Nat) (W : World), Sh ts A ca C W -> PTab W.heap.size W -> BTab W.heap.size W -> Calls Tryz.prog 30 #[.agg #[.slice A ts.length ca, .slice C (Ns.ends ts).length cc]] W (ToldRs (Rl.parse sd ts) W)) := Lib.hid fun A C ca cc W h hT hB => srules_any sd hsd ts hF hwf A C ca cc W h hT hB
  by_cases hlen : 1024 < (Rl.parse sd ts).length
  ·have HV : Hid (l = [] /\ er = 2) := Lib.hid (by rcases HL.out with h | h | h; exact absurd h.1 hd; exact h.2.2; exact absurd h.2.1 (by omega))
   have d1 : decide ((1024 : Int) < ((Rl.parse sd ts).length : Int)) = true := decide_eq_true (by omega)
   clear CE hF hsd HL hwf
   generalize Rl.parse sd ts = rl at *
   go_enter Tryz.func11, Tryz.ntmps11
   go_wp2_with (first | (go_at_call 28; ((with_reducible refine (CS.out).mono ?_); rintro e w1 ⟨A1, c1, rfl, hc1, T1, b1⟩; have HB1 := Lib.hid b1; have HT1 := Lib.hid T1; clear b1 T1)) | (go_at_call 29; ((with_reducible refine (CE2.out _ _ _ HT1.out).mono ?_); rintro e w2 ⟨A2, c2, rfl, hc2, B2, b2⟩; have HB2 := Lib.hid (below_next HB1.out b2); have HSh : Hid (Sh ts A1 c1 A2 w2) := Lib.hid ⟨HT1.out.next b2, B2, hc1⟩; clear b2 B2)) | (go_at_call 30; ((with_reducible refine (CR.out _ _ _ _ _ HSh.out (HT.out.next HB2.out) (HB.out.next HB2.out)).mono ?_); rintro e w3 ⟨A3, c3, rfl, hc3, C3, Y3, b3⟩; have HB3 := Lib.hid (below_next HB2.out b3); clear b3 C3 Y3)))
   go_ret2
   obtain ⟨e1, e2⟩ := HV.out
   subst e1 e2
   exact told_none 2 HB3.out
  ·have HV : Hid (l = Rl.parse sd ts /\ er = 0) := Lib.hid (by rcases HL.out with h | h | h; exact absurd h.1 hd; exact absurd h.2.1 hlen; exact h.2.2)
   have d1 : decide ((1024 : Int) < ((Rl.parse sd ts).length : Int)) = false := decide_eq_false (by omega)
   clear CE hF hsd HL hwf
   generalize Rl.parse sd ts = rl at *
   go_enter Tryz.func11, Tryz.ntmps11
   go_wp2_with (first | (go_at_call 28; ((with_reducible refine (CS.out).mono ?_); rintro e w1 ⟨A1, c1, rfl, hc1, T1, b1⟩; have HB1 := Lib.hid b1; have HT1 := Lib.hid T1; clear b1 T1)) | (go_at_call 29; ((with_reducible refine (CE2.out _ _ _ HT1.out).mono ?_); rintro e w2 ⟨A2, c2, rfl, hc2, B2, b2⟩; have HB2 := Lib.hid (below_next HB1.out b2); have HSh : Hid (Sh ts A1 c1 A2 w2) := Lib.hid ⟨HT1.out.next b2, B2, hc1⟩; clear b2 B2)) | (go_at_call 30; ((with_reducible refine (CR.out _ _ _ _ _ HSh.out (HT.out.next HB2.out) (HB.out.next HB2.out)).mono ?_); rintro e w3 ⟨A3, c3, rfl, hc3, C3, Y3, b3⟩; have HB3 := Lib.hid (below_next HB2.out b3); have HC3 := Lib.hid C3; have HY3 := Lib.hid Y3; clear b3 C3 Y3)))
   go_ret2
   obtain ⟨e1, e2⟩ := HV.out
   subst e1 e2
   exact ⟨A3, c3, rfl, hc3, HC3.out, HY3.out, HB3.out⟩
end Go.Proofs.YtkcabpjfgbghjaaGreatDoor
namespace Go.Proofs.YtkcabpjfgbghjaaGreatDoor
namespace Pr
open Ru Tk
open Go.Lib (encodeRuneZ)
def refN (a : Int) : Nat := if 240 <= a then 4 else if 224 <= a then 3 else if 128 <= a then 2 else 1
def refC (l : List Int) : Int :=
 if 240 <= g l 0 then (((g l 0 - 240) * 64 + g l 1 - 128) * 64 + g l 2 - 128) * 64 + g l 3 - 128
 else if 224 <= g l 0 then ((g l 0 - 224) * 64 + g l 1 - 128) * 64 + g l 2 - 128
 else if 128 <= g l 0 then (g l 0 - 192) * 64 + g l 1 - 128
 else g l 0
theorem enc_ref {d : Int} (h : Is d) (r : List Int) : refN (g (encodeRuneZ d ++ r) 0) = (encodeRuneZ d).length /\ refC (encodeRuneZ d ++ r) = d := by
 unfold Is at h
 obtain ⟨L, hL⟩ : ∃ L, L = encodeRuneZ d ++ r := ⟨_, rfl⟩
 rw [<- hL]
 by_cases c1 : d <= 127
 ·rw [Lib.encodeRuneZ_one h.1 c1] at hL ⊢
  have h0 : g L 0 = d := by rw [hL]; rfl
  unfold refN refC
  rw [h0, if_neg (by omega), if_neg (by omega), if_neg (by omega), if_neg (by omega), if_neg (by omega), if_neg (by omega)]
  exact ⟨rfl, rfl⟩
 ·by_cases c2 : d <= 2047
  ·rw [Lib.encodeRuneZ_two (by omega) c2] at hL ⊢
   have h0 : g L 0 = 192 + d / 64 := by rw [hL]; rfl
   have h1 : g L 1 = 128 + d % 64 := by rw [hL]; rfl
   unfold refN refC
   rw [h0, h1, if_neg (by omega), if_neg (by omega), if_pos (by omega), if_neg (by omega), if_neg (by omega), if_pos (by omega)]
   exact ⟨rfl, by omega⟩
  ·by_cases c3 : d <= 65535
   ·rw [Lib.encodeRuneZ_three (by omega)] at hL ⊢
    have h0 : g L 0 = 224 + d / 4096 := by rw [hL]; rfl
    have h1 : g L 1 = 128 + d / 64 % 64 := by rw [hL]; rfl
    have h2 : g L 2 = 128 + d % 64 := by rw [hL]; rfl
    unfold refN refC
    rw [h0, h1, h2, if_neg (by omega), if_pos (by omega), if_neg (by omega), if_pos (by omega)]
    exact ⟨rfl, by omega⟩
   ·rw [Lib.encodeRuneZ_four (by omega) (by omega)] at hL ⊢
    have h0 : g L 0 = 240 + d / 262144 := by rw [hL]; rfl
    have h1 : g L 1 = 128 + d / 4096 % 64 := by rw [hL]; rfl
    have h2 : g L 2 = 128 + d / 64 % 64 := by rw [hL]; rfl
    have h3 : g L 3 = 128 + d % 64 := by rw [hL]; rfl
    unfold refN refC
    rw [h0, h1, h2, h3, if_pos (by omega), if_pos (by omega)]
    exact ⟨rfl, by omega⟩
def Chars (t : ByteArray) (ds : List Int) (p : Nat) : Prop := p <= t.size /\ (bs t).take p = wr ds /\ ∀ c ∈ ds, Is c
theorem Chars.start (t : ByteArray) : Chars t [] 0 := ⟨by omega, by rw [List.take_zero]; rfl, fun c hc => by cases hc⟩
theorem Chars.bytes {t : ByteArray} {ds : List Int} {p : Nat} (h : Chars t ds p) : bs t = wr ds ++ (bs t).drop p := by rw [<- h.2.1, List.take_append_drop]
theorem Chars.next {t : ByteArray} {ds : List Int} {p n : Nat} {c : Int} (h : Chars t ds p) (hc : Is c) (hn : n = (encodeRuneZ c).length) (he : encodeRuneZ c = ((bs t).drop p).take n) : Chars t (ds ++ [c]) (p + n) := by
 have hl := congrArg List.length he
 rw [List.length_take, List.length_drop, bs_len] at hl
 refine ⟨by have := h.1; have := enc_pos c; omega, ?_, fun x hx => ?_⟩
 ·rw [List.take_add, h.2.1, wr_app, <- he]
  rw [wr_cons, wr_nil, List.append_nil]
 ·rcases List.mem_append.1 hx with hx | hx
  ·exact h.2.2 x hx
  ·rw [List.mem_singleton] at hx; subst hx; exact hc
theorem Chars.none {t : ByteArray} {ds : List Int} {p : Nat} (h : Chars t ds p) (hp : p < t.size) (hno : ∀ d r, Is d -> (bs t).drop p ≠ encodeRuneZ d ++ r) : ¬ ∃ cs, Txt t cs := by
 rintro ⟨cs, hx⟩
 have e : wr cs = wr ds ++ (bs t).drop p := hx.1.symm.trans h.bytes
 obtain ⟨cs', rfl, e2⟩ := wr_pre ds cs _ h.2.2 hx.2 e.symm
 cases cs' with
 | nil =>
   have hl := congrArg List.length e2
   rw [List.length_drop, bs_len, wr_nil] at hl
   simp at hl
   omega
 | cons d r => exact hno d (wr r) (hx.2 d (by simp)) (by rw [e2, wr_cons])
theorem Chars.done {t : ByteArray} {ds : List Int} {p : Nat} (h : Chars t ds p) (hp : ¬ p < t.size) : Txt t ds := by
 refine ⟨?_, h.2.2⟩
 have := h.bytes
 rw [List.drop_eq_nil_of_le (by rw [bs_len]; omega), List.append_nil] at this
 exact this
theorem ref_fail {L : List Int} (h : L.length < refN (g L 0) ∨ refC L < 0 ∨ isB (refC L) = false ∨ encodeRuneZ (refC L) ≠ L.take (refN (g L 0))) : ∀ d r, Is d -> L ≠ encodeRuneZ d ++ r := by
 rintro d r hd rfl
 obtain ⟨e1, e2⟩ := enc_ref hd r
 rw [e1, e2] at h
 rcases h with h | h | h | h
 ·rw [List.length_append] at h; omega
 ·have := (Is_lt hd).1; omega
 ·rw [Is_isB hd] at h; cases h
 ·exact h (by rw [List.take_left])
theorem ref_ok {L : List Int} (he : encodeRuneZ (refC L) = L.take (refN (g L 0))) (hn : refN (g L 0) <= L.length) : refN (g L 0) = (encodeRuneZ (refC L)).length := by
 rw [he, List.length_take]; omega
end Pr
end Go.Proofs.YtkcabpjfgbghjaaGreatDoor
namespace Go.Proofs.YtkcabpjfgbghjaaGreatDoor
open Go.RowKit
theorem ris_any (c : Int) (w : World) :
 Calls Tryz.prog 188 #[.int .i64 c] w fun e w' => e = .returned (.bool (Ru.isB c)) /\ w = w' := by
 by_cases a1 : 0 <= c <;> by_cases a2 : c <= 1114111 <;> by_cases a3 : c < 55296 <;> by_cases a4 : 57343 < c
 all_goals try omega
 all_goals
  go_enter Tryz.func188, Tryz.ntmps188
  go_wp2_with fail
  go_ret
  exact ⟨ret_bool (by unfold Ru.isB; simp; try omega), rfl⟩
theorem rbegins_any (c : Int) (w : World) :
 Calls Tryz.prog 149 #[.int .i64 c] w fun e w' => e = .returned (.bool (Ru.begB c)) /\ w = w' := by
 by_cases b1 : c = 95
 ·subst b1
  go_enter Tryz.func149, Tryz.ntmps149
  go_wp2_with fail
  go_ret
  exact ⟨rfl, rfl⟩
 ·have e1 := Ru.eq_f b1
  by_cases b2 : 128 <= c
  ·go_enter Tryz.func149, Tryz.ntmps149
   go_wp2_with (go_at_call 188; refine (ris_any _ _).mono ?_; rintro e w' ⟨rfl, rfl⟩)
   go_ret
   exact ⟨ret_bool (by unfold Ru.begB Ru.isB; rw [Bool.eq_iff_iff]; simp; omega), rfl⟩
  ·by_cases a1 : 97 <= c <;> by_cases a2 : c <= 122 <;> by_cases a3 : 65 <= c <;> by_cases a4 : c <= 90
   all_goals try omega
   all_goals
    go_enter Tryz.func149, Tryz.ntmps149
    go_wp2_with fail
    go_ret
    exact ⟨ret_bool (by unfold Ru.begB; simp; try omega), rfl⟩
def Fresh (k : IntKind) (l : List Int) (w : World) (e : Ending) (w' : World) : Prop :=
 ∃ (b cap : Nat), e = .returned (.slice (some ⟨b, 0, none⟩) l.length cap) /\ (∀ j u, (nums k l)[j]? = some u -> w'.cell? ((⟨b, 0, none⟩ : Addr).add j) = some u) /\ Below w.heap.size w w'
theorem fresh_made {w : World} {k : IntKind} {l : List Int} {E : TypeId} (v : Ending) (h : v = .returned (.slice (some ⟨w.heap.size, 0, none⟩) l.length l.length)) : Fresh k l w v (w.alloc (.cells (nums k l).toArray E)) := by
 refine ⟨w.heap.size, l.length, h, fun j u hj => ?_, (Below.refl _ _).alloc (Nat.le_refl _) _⟩
 rw [Addr.add_lit, cell_of_row _ _ _ (nums k l).toArray E (0, 0) (heap_alloc_new w _)]
 simpa using hj
theorem bytes_any (c : Int) (w : World) (h : Ru.Is c) :
 Calls Tryz.prog 189 #[.int .i64 c] w (Fresh .u8 (Lib.encodeRuneZ c) w) := by
 unfold Ru.Is at h
 by_cases h1 : c < 128
 ·have e := Lib.encodeRuneZ_one h.1 (by omega : c <= 127)
  rw [e]
  have q0 : 0 <= c := h.1
  clear e h
  go_enter Tryz.func189, Tryz.ntmps189
  go_wp2_with fail
  go_ret
  exact fresh_made _ rfl
 ·by_cases h2 : c < 2048
  ·have e := Lib.encodeRuneZ_two (by omega : 128 <= c) (by omega)
   rw [e]
   clear e h
   go_enter Tryz.func189, Tryz.ntmps189
   go_wp2_with fail
   go_ret
   exact fresh_made _ rfl
  ·by_cases h3 : c < 65536
   ·have e := Lib.encodeRuneZ_three (r := c) (by omega)
    rw [e]
    clear e h
    go_enter Tryz.func189, Tryz.ntmps189
    go_wp2_with fail
    go_ret
    exact fresh_made _ rfl
   ·have e := Lib.encodeRuneZ_four (r := c) (by omega) (by omega)
    rw [e]
    have q1 : c <= 1114111 := by omega
    clear e h
    go_enter Tryz.func189, Tryz.ntmps189
    go_wp2_with fail
    go_ret
    exact fresh_made _ rfl
def ChAt (t : ByteArray) (C : Nat) (w0 : World) (v4 v5 : Value) (wr : World) : Prop :=
 ∃ (p : Nat) (ds : List Int) (A : Option Addr), Pr.Chars t ds p /\ v5 = .slice A (t.size - p) (C - p) /\ Hid (Bs w0 w0.heap.size .u8 A ((Ru.bs t).drop p)) /\ Hid (wr.ownsRow w0.heap.size 3 1 v4 ds.length (nums .i64 ds)) /\ Hid (Below w0.heap.size w0 wr)
def Charred (t : ByteArray) (w : World) (e : Ending) (w' : World) : Prop :=
 (∃ (cs : List Int) (A : Option Addr) (cap : Nat), Pr.Txt t cs /\ e = .returned (.tuple #[.slice A cs.length cap, .bool true]) /\ cs.length <= cap /\ Bs w' w'.heap.size .i64 A cs /\ Below w.heap.size w w') ∨
 ((¬ ∃ cs, Pr.Txt t cs) /\ e = .returned (.tuple #[.slice none 0 0, .bool false]) /\ Below w.heap.size w w')
theorem under_bytes : Tryz.prog.underlying 22 = some (.slice (Tryz.prog.elem 22)) := by kernel_rfl
theorem elem_byte (w : World) : (sizeOf (Tryz.prog.elem 22)).run Tryz.prog w = .ok 1 w := by kernel_rfl
theorem upto_bytes (b off m cp n : Nat) (hn : n <= cp) (W : World) : (Instr.slice 22 (.slice (some ⟨b, off, none⟩) m cp) none (some (.int .i64 (n : Int))) none).run Tryz.prog W = .ok (.slice (some ⟨b, off, none⟩) n cp) W := by
 rw [run_slice_h W 22 _ _ _ under_bytes .i64 (n : Int) (by omega) (by omega), elem_byte]
 simp only [Result.andThen_ok, sliced, Int.toNat_natCast, Nat.zero_mul, Nat.sub_zero, Option.map_some, Addr.add_lit, Nat.add_zero]
 split <;> rfl
theorem from_bytes (A : Option Addr) (m cp n : Nat) (hn : n <= m) (W : World) : (Instr.slice 22 (.slice A m cp) (some (.int .i64 (n : Int))) none none).run Tryz.prog W = .ok (.slice (if cp = n then A else A.map (·.add n)) (m - n) (cp - n)) W := by
 rw [run_slice_l W 22 _ _ _ under_bytes .i64 (n : Int) (by omega) (by omega), elem_byte]
 simp only [Result.andThen_ok, sliced, Int.toNat_natCast, Nat.mul_one]
theorem bytes_eq {a b : List Int} (ha : Ru.By a) (hb : Ru.By b) : ((strOfNums a).toList == (strOfNums b).toList) = decide (a = b) := by
 rw [Bool.eq_iff_iff, beq_iff_eq, decide_eq_true_iff]
 constructor
 ·intro h
  have e1 := Ru.bs_str ha
  have e2 := Ru.bs_str hb
  unfold Ru.bs at e1 e2
  rw [<- Lib.toList_data] at e1 e2
  rw [<- e1, <- e2, h]
 ·rintro rfl; rfl
theorem fresh_bs {k : IntKind} {l : List Int} {b : Nat} {w' : World} (h : ∀ j u, (nums k l)[j]? = some u -> w'.cell? ((⟨b, 0, none⟩ : Addr).add j) = some u) (h0 : 0 < l.length) : Bs w' w'.heap.size k (some ⟨b, 0, none⟩) l := fun _ => by
 refine ⟨b, 0, rfl, ?_, fun j hj => ?_⟩
 ·have := h 0 _ (nums_get h0)
  exact World.block_lt_of_cell? w' _ (by rw [Addr.add_lit] at this; exact this)
 ·have := h j _ (nums_get hj)
  rw [Addr.add_lit] at this
  exact this
theorem Tryz.infoInt : (Tryz.prog.info? 3).map (fun i => (i.zero, i.size, i.bytes)) = some (some (.int .i64 0), 1, 8) := by kernel_rfl
theorem Ru.By.take {l : List Int} (h : Ru.By l) (k : Nat) : Ru.By (l.take k) := fun c hc => h c (List.mem_of_mem_take hc)
theorem Pr.enc_by (c : Int) : Ru.By (Lib.encodeRuneZ c) := fun x hx => Lib.encodeRuneZ_byte c x hx
theorem chars_any (t : ByteArray) (hm : t.size <= 90000) (w : World) :
 Calls Tryz.prog 146 #[.string t] w (Charred t w) := by
 obtain ⟨C, w0, hcv, hcell, hfz, hb0, hC⟩ := bytes_of t w
 have HS : Hid (ChAt t C w0 (.slice none 0 0) (.slice (some ⟨w.heap.size, 0, none⟩) t.size C) w0) := by
  refine Lib.hid ⟨0, [], _, Pr.Chars.start t, rfl, Lib.hid (fun hl => ?_), Lib.hid (World.ownsRow_nil _ _ _ _), Lib.hid (Below.refl _ _)⟩
  rw [List.drop_zero, Ru.bs_len] at hl
  refine ⟨w.heap.size, 0, rfl, World.block_lt_of_cell? w0 _ (hcell 0 hl), fun j hj => ?_⟩
  rw [List.drop_zero] at hj ⊢
  rw [Ru.bs_len] at hj
  rw [Nat.zero_add]
  exact hcell j hj
 obtain ⟨i0, hi, hz0, hz1, hz2⟩ := info_parts Tryz.infoInt
 have hC' := hC
 have HB0 := Lib.hid hb0
 clear hcell hfz
 go_enter Tryz.func146, Tryz.ntmps146
 go_wp2_with fail
 clear hcv
 go_loopw [4, 5] (ChAt t C w0) (fun _ v5 _ => match v5 with | .slice _ n _ => n | _ => 0)
 case atStart => exact HS
 case round =>
  obtain ⟨p, ds, A, hch, rfl, HBs0, HO, HB⟩ := hrel
  have HBs := Lib.hid (HBs0.out.next HB.out)
  have HCh := Lib.hid hch
  have hp := hch.1
  by_cases hlt : p < t.size
  ·have hL : ((Ru.bs t).drop p).length = t.size - p := by rw [List.length_drop, Ru.bs_len]
   obtain ⟨b, off, rfl, hbb, hcell⟩ := HBs.out (by omega)
   have hby := (Ru.bs_by t).drop p
   have HBY := Lib.hid hby
   have HL : Hid (∀ n, (Ru.bs t).drop (p + n) = ((Ru.bs t).drop p).drop n) := Lib.hid fun n => by rw [List.drop_drop]
   have HF : Hid (((Ru.bs t).drop p).length < Pr.refN (Ru.g ((Ru.bs t).drop p) 0) ∨ Pr.refC ((Ru.bs t).drop p) < 0 ∨ Ru.isB (Pr.refC ((Ru.bs t).drop p)) = false ∨ Lib.encodeRuneZ (Pr.refC ((Ru.bs t).drop p)) ≠ ((Ru.bs t).drop p).take (Pr.refN (Ru.g ((Ru.bs t).drop p) 0)) -> ¬ ∃ cs, Pr.Txt t cs) := Lib.hid fun h => hch.none hlt (Pr.ref_fail h)
   have HG : Hid (∀ c n, Ru.Is c -> n = (Lib.encodeRuneZ c).length -> Lib.encodeRuneZ c = ((Ru.bs t).drop p).take n -> Pr.Chars t (ds ++ [c]) (p + n)) := Lib.hid fun c n h1 h2 h3 => hch.next h1 h2 h3
   generalize (Ru.bs t).drop p = L at *
   have c0 := hcell 0 (by omega)
   rw [Nat.add_zero] at c0
   obtain ⟨a0, ha0⟩ : ∃ a0, a0 = Ru.g L 0 := ⟨_, rfl⟩
   obtain ⟨a1, ha1⟩ : ∃ a1, a1 = Ru.g L 1 := ⟨_, rfl⟩
   obtain ⟨a2, ha2⟩ : ∃ a2, a2 = Ru.g L 2 := ⟨_, rfl⟩
   obtain ⟨a3, ha3⟩ : ∃ a3, a3 = Ru.g L 3 := ⟨_, rfl⟩
   have y0 := hby.at_ 0
   have y1 := hby.at_ 1
   have y2 := hby.at_ 2
   have y3 := hby.at_ 3
   rw [<- ha0] at c0 y0
   rw [<- ha1] at y1
   rw [<- ha2] at y2
   rw [<- ha3] at y3
   have hds : ds.length <= p := by
    have h1 := Pr.wr_len_ge ds
    rw [<- hch.2.1, List.length_take, Ru.bs_len] at h1
    omega
   have HP : Hid (t.size - p = L.length /\ ∀ n, t.size - (p + n) = L.length - n /\ C - (p + n) = C - p - n) := Lib.hid ⟨hL.symm, fun n => ⟨by omega, by omega⟩⟩
   have hLc : L.length <= C - p := by omega
   have hL1 : L.length <= 90000 := by omega
   have hL0 : 0 < L.length := by omega
   rw [<- hL]
   have HA := Lib.hid (And.intro ha0 (And.intro ha1 (And.intro ha2 ha3)))
   have hds2 : ds.length <= 90000 := by omega
   have HPR := Lib.hid (And.intro hlt hp)
   generalize C - p = cp at *
   obtain ⟨m, hmm⟩ : ∃ m, m = L.length := ⟨_, rfl⟩
   rw [<- hmm] at hL0 hL1 hLc ⊢
   have HM := Lib.hid hmm
   have HC := Lib.hid (fun j hj => hcell j (by rw [<- hmm]; exact hj) : ∀ j, j < m -> wr.cell? ⟨b, off + j, none⟩ = some (.int .u8 (Ru.g L j)))
   clear ha0 ha1 ha2 ha3 hcell hlt hby hb0 HS hch hp hL hC hds hmm
   by_cases g4 : 240 <= a0
   ·skip
    have hrn : Pr.refN (Ru.g L 0) = 4 := by unfold Pr.refN; rw [<- HA.out.1, if_pos (by omega)]
    have hrc : Pr.refC L = (((a0 - 240) * 64 + a1 - 128) * 64 + a2 - 128) * 64 + a3 - 128 := by unfold Pr.refC; rw [<- HA.out.1, <- HA.out.2.1, <- HA.out.2.2.1, <- HA.out.2.2.2, if_pos (by omega)]
    rw [hrn, hrc] at HF
    have HRN := Lib.hid hrn
    have HRC := Lib.hid hrc
    clear hrn hrc
    by_cases hn : 4 <= m
    ·skip
     have c1 := HC.out 1 (by omega)
     rw [<- HA.out.2.1] at c1
     have c2 := HC.out 2 (by omega)
     rw [<- HA.out.2.2.1] at c2
     have c3 := HC.out 3 (by omega)
     rw [<- HA.out.2.2.2] at c3
     obtain ⟨c, hc⟩ : ∃ c, c = (((a0 - 240) * 64 + a1 - 128) * 64 + a2 - 128) * 64 + a3 - 128 := ⟨_, rfl⟩
     have hcb : -100000000 <= c /\ c <= 100000000 := by omega
     have hsl := fun W => upto_bytes b off m cp 4 (by omega) W
     have hsl2 := fun W => from_bytes (some ⟨b, off, none⟩) m cp 4 (by omega) W
     have hcv : ∀ W, Below wr.heap.size wr W -> (convert 22 9 (.slice (some ⟨b, off, none⟩) 4 cp)).run Tryz.prog W = .ok (.string (strOfNums (L.take 4))) W := fun W hW => by
      have h := conv_bytes cp ((HBs.out.upto 4 (by rw [<- HM.out]; omega)).below hW)
      rw [List.length_take, <- HM.out, Nat.min_eq_left (by omega)] at h
      exact h
     have HCV := Lib.hid hcv
     clear hcv
     rw [<- hc] at HF HRC
     have HFL : Hid (c < 0 ∨ Ru.isB c = false ∨ Lib.encodeRuneZ c ≠ L.take 4 -> ¬ ∃ cs, Pr.Txt t cs) := Lib.hid fun h => HF.out (.inr h)
     clear HF
     by_cases hneg : c < 0
     ·have hd : decide (c < 0) = true := decide_eq_true hneg
      have HN := Lib.hid hneg
      clear hneg
      go_wp2_with fail
      refine wp_loop_rounds 4 ?_
      repeat (rw [rounds_succ]; go_wp2_with fail)
      rw [<- hc]
      clear hc
      go_quiet (fail)
      go_wp2_with fail
      go_ret2
      exact .inr ⟨HFL.out (.inl HN.out), rfl, below_next HB0.out (below_drewN HB.out _)⟩
     ·have hd : decide (c < 0) = false := decide_eq_false hneg
      have hc0 : 0 <= c := by omega
      clear hneg
      have CI := Lib.hid (fun W => ris_any c W)
      cases his : Ru.isB c
      ·rw [his] at CI
       have HN := Lib.hid his
       clear his
       go_wp2_with fail
       refine wp_loop_rounds 4 ?_
       repeat (rw [rounds_succ]; go_wp2_with fail)
       rw [<- hc]
       clear hc
       go_quiet ((go_at_call 188; exact Calls.quiet_of_same ((CI.out _).mono fun _ _ h => ⟨h.1, h.2.symm⟩)))
       go_wp2_with fail
       go_ret2
       exact .inr ⟨HFL.out (.inr (.inl HN.out)), rfl, below_next HB0.out (below_drewN HB.out _)⟩
      ·rw [his] at CI
       have HIs := Lib.hid (Ru.isB_iff.1 his)
       have CB := Lib.hid (fun W => bytes_any c W HIs.out)
       have hel := Lib.encodeRuneZ_length c
       have hqe := bytes_eq (Pr.enc_by c) (HBY.out.take 4)
       have hcd := HCV.out wr.drew (Below.refl _ _).drew
       have hXs : (strOfNums (Lib.encodeRuneZ c)).size <= 4 := by rw [strOfNums_size]; omega
       obtain ⟨X, hX⟩ : ∃ X, X = strOfNums (Lib.encodeRuneZ c) := ⟨_, rfl⟩
       obtain ⟨Y, hY⟩ : ∃ Y, Y = strOfNums (L.take 4) := ⟨_, rfl⟩
       have HX := Lib.hid hX
       have HY := Lib.hid hY
       rw [<- hX] at hqe hXs
       rw [<- hY] at hqe hcd
       clear hX hY his
       have HQ : Hid (∃ d, (X.toList == Y.toList) = d /\ (d = true ↔ Lib.encodeRuneZ c = L.take 4)) := Lib.hid ⟨_, rfl, by rw [hqe, decide_eq_true_iff]⟩
       clear hqe
       obtain ⟨d, hqe, hdq⟩ := HQ.out
       have HDQ := Lib.hid hdq
       clear HQ hdq
       go_wp2_with fail
       refine wp_loop_rounds 4 ?_
       repeat (rw [rounds_succ]; go_wp2_with fail)
       go_upto_region 21 with fail
       rw [<- hc]
       clear hc
       go_cut [70] (fun s70 wc => s70 = .bool (!d) /\ Hid (Below wr.heap.size wr wc))
       case first =>
        clear HG HO HB HA HP HPR
        go_region_with (first | (go_at_call 188; ((with_reducible refine (CI.out _).mono ?_); rintro e w1 ⟨rfl, rfl⟩)) | (go_at_call 189; ((with_reducible refine (CB.out _).mono ?_); rintro e w2 ⟨bx, cx, rfl, hfc, b2⟩; have hcx := conv_bytes cx (fresh_bs hfc (by omega)); rw [<- HX.out] at hcx; have HB2 := Lib.hid ((Below.refl wr.heap.size wr).drew.trans b2); have hcy := HCV.out _ HB2.out; rw [<- HY.out] at hcy; clear hfc)))
        all_goals
         go_wp2_with fail
         go_meet
         exact ⟨rfl, HB2⟩
       case rest =>
        obtain ⟨rfl, HB2⟩ := hcut
        cases d
        ·have hno : ¬ (Lib.encodeRuneZ c = L.take 4) := fun h => by have := HDQ.out.2 h; cases this
         have HXY := Lib.hid hno
         clear hno HO HBs
         go_wp2_with fail
         go_ret2
         exact .inr ⟨HFL.out (.inr (.inr HXY.out)), rfl, below_next HB0.out (below_next HB.out HB2.out)⟩
        ·have HXY := Lib.hid (HDQ.out.1 rfl)
         have HO2 := Lib.hid (kept_below HO.out HB2.out (Nat.le_refl _))
         go_wp2_with (at_builtin; refine wpList_append_own _ rfl _ _ 54 rfl w0.heap.size 3 i0 (.int .i64 0) 1 8 Tryz.underlying54 hi hz0 hz1 hz2 rfl (by decide) _ _ _ rfl (HO2.out.alloc _) ⟨wc.heap.size, 0, none⟩ 1 1 [.int .i64 c] rfl rfl (one_cell wc (.int .i64 c)) (one_ok c) (by unfold maxLen; omega) (by omega) (alloc_size (Nat.le_trans HB.out.size HB2.out.size) _) ?_; intro v' w3 hown' hgrow _; have HO3 := Lib.hid (made_next HO.out HB.out HB2.out hown' hgrow); have HS3 := Lib.hid (HBs0.out.from_ (i := 4) (by rw [<- HM.out]; omega) cp (by rw [<- HM.out]; omega)); clear hown' hgrow)
         go_roundw
         case rel =>
          have hr := Pr.ref_ok (L := L) (by rw [HRC.out, HRN.out]; exact HXY.out) (by rw [HRN.out, <- HM.out]; omega)
          rw [HRC.out, HRN.out] at hr
          refine ⟨p + 4, ds ++ [c], (if cp = 4 then some ⟨b, off, none⟩ else some ⟨b, off + 4, none⟩ : Option Addr), HG.out c 4 HIs.out hr HXY.out, ?_, Lib.hid ?_, Lib.hid HO3.out.1, Lib.hid HO3.out.2⟩
          ·rw [(HP.out.2 4).1, (HP.out.2 4).2, <- HM.out]
          ·rw [HL.out]; exact HS3.out
         case measure =>
          show m - 4 < m
          omega
    ·have hnl : m < 4 := by omega
     go_wp2_with fail
     go_ret2
     exact .inr ⟨HF.out (.inl (by rw [<- HM.out]; exact hnl)), rfl, below_next HB0.out HB.out⟩
   ·by_cases g3 : 224 <= a0
    ·skip
     have hrn : Pr.refN (Ru.g L 0) = 3 := by unfold Pr.refN; rw [<- HA.out.1, if_neg (by omega), if_pos (by omega)]
     have hrc : Pr.refC L = ((a0 - 224) * 64 + a1 - 128) * 64 + a2 - 128 := by unfold Pr.refC; rw [<- HA.out.1, <- HA.out.2.1, <- HA.out.2.2.1, <- HA.out.2.2.2, if_neg (by omega), if_pos (by omega)]
     rw [hrn, hrc] at HF
     have HRN := Lib.hid hrn
     have HRC := Lib.hid hrc
     clear hrn hrc
     by_cases hn : 3 <= m
     ·skip
      have c1 := HC.out 1 (by omega)
      rw [<- HA.out.2.1] at c1
      have c2 := HC.out 2 (by omega)
      rw [<- HA.out.2.2.1] at c2
      obtain ⟨c, hc⟩ : ∃ c, c = ((a0 - 224) * 64 + a1 - 128) * 64 + a2 - 128 := ⟨_, rfl⟩
      have hcb : -100000000 <= c /\ c <= 100000000 := by omega
      have hsl := fun W => upto_bytes b off m cp 3 (by omega) W
      have hsl2 := fun W => from_bytes (some ⟨b, off, none⟩) m cp 3 (by omega) W
      have hcv : ∀ W, Below wr.heap.size wr W -> (convert 22 9 (.slice (some ⟨b, off, none⟩) 3 cp)).run Tryz.prog W = .ok (.string (strOfNums (L.take 3))) W := fun W hW => by
       have h := conv_bytes cp ((HBs.out.upto 3 (by rw [<- HM.out]; omega)).below hW)
       rw [List.length_take, <- HM.out, Nat.min_eq_left (by omega)] at h
       exact h
      have HCV := Lib.hid hcv
      clear hcv
      rw [<- hc] at HF HRC
      have HFL : Hid (c < 0 ∨ Ru.isB c = false ∨ Lib.encodeRuneZ c ≠ L.take 3 -> ¬ ∃ cs, Pr.Txt t cs) := Lib.hid fun h => HF.out (.inr h)
      clear HF
      by_cases hneg : c < 0
      ·have hd : decide (c < 0) = true := decide_eq_true hneg
       have HN := Lib.hid hneg
       clear hneg
       go_wp2_with fail
       refine wp_loop_rounds 3 ?_
       repeat (rw [rounds_succ]; go_wp2_with fail)
       rw [<- hc]
       clear hc
       go_quiet (fail)
       go_wp2_with fail
       go_ret2
       exact .inr ⟨HFL.out (.inl HN.out), rfl, below_next HB0.out (below_drewN HB.out _)⟩
      ·have hd : decide (c < 0) = false := decide_eq_false hneg
       have hc0 : 0 <= c := by omega
       clear hneg
       have CI := Lib.hid (fun W => ris_any c W)
       cases his : Ru.isB c
       ·rw [his] at CI
        have HN := Lib.hid his
        clear his
        go_wp2_with fail
        refine wp_loop_rounds 3 ?_
        repeat (rw [rounds_succ]; go_wp2_with fail)
        rw [<- hc]
        clear hc
        go_quiet ((go_at_call 188; exact Calls.quiet_of_same ((CI.out _).mono fun _ _ h => ⟨h.1, h.2.symm⟩)))
        go_wp2_with fail
        go_ret2
        exact .inr ⟨HFL.out (.inr (.inl HN.out)), rfl, below_next HB0.out (below_drewN HB.out _)⟩
       ·rw [his] at CI
        have HIs := Lib.hid (Ru.isB_iff.1 his)
        have CB := Lib.hid (fun W => bytes_any c W HIs.out)
        have hel := Lib.encodeRuneZ_length c
        have hqe := bytes_eq (Pr.enc_by c) (HBY.out.take 3)
        have hcd := HCV.out wr.drew (Below.refl _ _).drew
        have hXs : (strOfNums (Lib.encodeRuneZ c)).size <= 4 := by rw [strOfNums_size]; omega
        obtain ⟨X, hX⟩ : ∃ X, X = strOfNums (Lib.encodeRuneZ c) := ⟨_, rfl⟩
        obtain ⟨Y, hY⟩ : ∃ Y, Y = strOfNums (L.take 3) := ⟨_, rfl⟩
        have HX := Lib.hid hX
        have HY := Lib.hid hY
        rw [<- hX] at hqe hXs
        rw [<- hY] at hqe hcd
        clear hX hY his
        have HQ : Hid (∃ d, (X.toList == Y.toList) = d /\ (d = true ↔ Lib.encodeRuneZ c = L.take 3)) := Lib.hid ⟨_, rfl, by rw [hqe, decide_eq_true_iff]⟩
        clear hqe
        obtain ⟨d, hqe, hdq⟩ := HQ.out
        have HDQ := Lib.hid hdq
        clear HQ hdq
        go_wp2_with fail
        refine wp_loop_rounds 3 ?_
        repeat (rw [rounds_succ]; go_wp2_with fail)
        go_upto_region 21 with fail
        rw [<- hc]
        clear hc
        go_cut [70] (fun s70 wc => s70 = .bool (!d) /\ Hid (Below wr.heap.size wr wc))
        case first =>
         clear HG HO HB HA HP HPR
         go_region_with (first | (go_at_call 188; ((with_reducible refine (CI.out _).mono ?_); rintro e w1 ⟨rfl, rfl⟩)) | (go_at_call 189; ((with_reducible refine (CB.out _).mono ?_); rintro e w2 ⟨bx, cx, rfl, hfc, b2⟩; have hcx := conv_bytes cx (fresh_bs hfc (by omega)); rw [<- HX.out] at hcx; have HB2 := Lib.hid ((Below.refl wr.heap.size wr).drew.trans b2); have hcy := HCV.out _ HB2.out; rw [<- HY.out] at hcy; clear hfc)))
         all_goals
          go_wp2_with fail
          go_meet
          exact ⟨rfl, HB2⟩
        case rest =>
         obtain ⟨rfl, HB2⟩ := hcut
         cases d
         ·have hno : ¬ (Lib.encodeRuneZ c = L.take 3) := fun h => by have := HDQ.out.2 h; cases this
          have HXY := Lib.hid hno
          clear hno HO HBs
          go_wp2_with fail
          go_ret2
          exact .inr ⟨HFL.out (.inr (.inr HXY.out)), rfl, below_next HB0.out (below_next HB.out HB2.out)⟩
         ·have HXY := Lib.hid (HDQ.out.1 rfl)
          have HO2 := Lib.hid (kept_below HO.out HB2.out (Nat.le_refl _))
          go_wp2_with (at_builtin; refine wpList_append_own _ rfl _ _ 54 rfl w0.heap.size 3 i0 (.int .i64 0) 1 8 Tryz.underlying54 hi hz0 hz1 hz2 rfl (by decide) _ _ _ rfl (HO2.out.alloc _) ⟨wc.heap.size, 0, none⟩ 1 1 [.int .i64 c] rfl rfl (one_cell wc (.int .i64 c)) (one_ok c) (by unfold maxLen; omega) (by omega) (alloc_size (Nat.le_trans HB.out.size HB2.out.size) _) ?_; intro v' w3 hown' hgrow _; have HO3 := Lib.hid (made_next HO.out HB.out HB2.out hown' hgrow); have HS3 := Lib.hid (HBs0.out.from_ (i := 3) (by rw [<- HM.out]; omega) cp (by rw [<- HM.out]; omega)); clear hown' hgrow)
          go_roundw
          case rel =>
           have hr := Pr.ref_ok (L := L) (by rw [HRC.out, HRN.out]; exact HXY.out) (by rw [HRN.out, <- HM.out]; omega)
           rw [HRC.out, HRN.out] at hr
           refine ⟨p + 3, ds ++ [c], (if cp = 3 then some ⟨b, off, none⟩ else some ⟨b, off + 3, none⟩ : Option Addr), HG.out c 3 HIs.out hr HXY.out, ?_, Lib.hid ?_, Lib.hid HO3.out.1, Lib.hid HO3.out.2⟩
           ·rw [(HP.out.2 3).1, (HP.out.2 3).2, <- HM.out]
           ·rw [HL.out]; exact HS3.out
          case measure =>
           show m - 3 < m
           omega
     ·have hnl : m < 3 := by omega
      go_wp2_with fail
      go_ret2
      exact .inr ⟨HF.out (.inl (by rw [<- HM.out]; exact hnl)), rfl, below_next HB0.out HB.out⟩
    ·by_cases g2 : 128 <= a0
     ·skip
      have hrn : Pr.refN (Ru.g L 0) = 2 := by unfold Pr.refN; rw [<- HA.out.1, if_neg (by omega), if_neg (by omega), if_pos (by omega)]
      have hrc : Pr.refC L = (a0 - 192) * 64 + a1 - 128 := by unfold Pr.refC; rw [<- HA.out.1, <- HA.out.2.1, <- HA.out.2.2.1, <- HA.out.2.2.2, if_neg (by omega), if_neg (by omega), if_pos (by omega)]
      rw [hrn, hrc] at HF
      have HRN := Lib.hid hrn
      have HRC := Lib.hid hrc
      clear hrn hrc
      by_cases hn : 2 <= m
      ·skip
       have c1 := HC.out 1 (by omega)
       rw [<- HA.out.2.1] at c1
       obtain ⟨c, hc⟩ : ∃ c, c = (a0 - 192) * 64 + a1 - 128 := ⟨_, rfl⟩
       have hcb : -100000000 <= c /\ c <= 100000000 := by omega
       have hsl := fun W => upto_bytes b off m cp 2 (by omega) W
       have hsl2 := fun W => from_bytes (some ⟨b, off, none⟩) m cp 2 (by omega) W
       have hcv : ∀ W, Below wr.heap.size wr W -> (convert 22 9 (.slice (some ⟨b, off, none⟩) 2 cp)).run Tryz.prog W = .ok (.string (strOfNums (L.take 2))) W := fun W hW => by
        have h := conv_bytes cp ((HBs.out.upto 2 (by rw [<- HM.out]; omega)).below hW)
        rw [List.length_take, <- HM.out, Nat.min_eq_left (by omega)] at h
        exact h
       have HCV := Lib.hid hcv
       clear hcv
       rw [<- hc] at HF HRC
       have HFL : Hid (c < 0 ∨ Ru.isB c = false ∨ Lib.encodeRuneZ c ≠ L.take 2 -> ¬ ∃ cs, Pr.Txt t cs) := Lib.hid fun h => HF.out (.inr h)
       clear HF
       by_cases hneg : c < 0
       ·have hd : decide (c < 0) = true := decide_eq_true hneg
        have HN := Lib.hid hneg
        clear hneg
        go_wp2_with fail
        refine wp_loop_rounds 2 ?_
        repeat (rw [rounds_succ]; go_wp2_with fail)
        rw [<- hc]
        clear hc
        go_quiet (fail)
        go_wp2_with fail
        go_ret2
        exact .inr ⟨HFL.out (.inl HN.out), rfl, below_next HB0.out (below_drewN HB.out _)⟩
       ·have hd : decide (c < 0) = false := decide_eq_false hneg
        have hc0 : 0 <= c := by omega
        clear hneg
        have CI := Lib.hid (fun W => ris_any c W)
        cases his : Ru.isB c
        ·rw [his] at CI
         have HN := Lib.hid his
         clear his
         go_wp2_with fail
         refine wp_loop_rounds 2 ?_
         repeat (rw [rounds_succ]; go_wp2_with fail)
         rw [<- hc]
         clear hc
         go_quiet ((go_at_call 188; exact Calls.quiet_of_same ((CI.out _).mono fun _ _ h => ⟨h.1, h.2.symm⟩)))
         go_wp2_with fail
         go_ret2
         exact .inr ⟨HFL.out (.inr (.inl HN.out)), rfl, below_next HB0.out (below_drewN HB.out _)⟩
        ·rw [his] at CI
         have HIs := Lib.hid (Ru.isB_iff.1 his)
         have CB := Lib.hid (fun W => bytes_any c W HIs.out)
         have hel := Lib.encodeRuneZ_length c
         have hqe := bytes_eq (Pr.enc_by c) (HBY.out.take 2)
         have hcd := HCV.out wr.drew (Below.refl _ _).drew
         have hXs : (strOfNums (Lib.encodeRuneZ c)).size <= 4 := by rw [strOfNums_size]; omega
         obtain ⟨X, hX⟩ : ∃ X, X = strOfNums (Lib.encodeRuneZ c) := ⟨_, rfl⟩
         obtain ⟨Y, hY⟩ : ∃ Y, Y = strOfNums (L.take 2) := ⟨_, rfl⟩
         have HX := Lib.hid hX
         have HY := Lib.hid hY
         rw [<- hX] at hqe hXs
         rw [<- hY] at hqe hcd
         clear hX hY his
         have HQ : Hid (∃ d, (X.toList == Y.toList) = d /\ (d = true ↔ Lib.encodeRuneZ c = L.take 2)) := Lib.hid ⟨_, rfl, by rw [hqe, decide_eq_true_iff]⟩
         clear hqe
         obtain ⟨d, hqe, hdq⟩ := HQ.out
         have HDQ := Lib.hid hdq
         clear HQ hdq
         go_wp2_with fail
         refine wp_loop_rounds 2 ?_
         repeat (rw [rounds_succ]; go_wp2_with fail)
         go_upto_region 21 with fail
         rw [<- hc]
         clear hc
         go_cut [70] (fun s70 wc => s70 = .bool (!d) /\ Hid (Below wr.heap.size wr wc))
         case first =>
          clear HG HO HB HA HP HPR
          go_region_with (first | (go_at_call 188; ((with_reducible refine (CI.out _).mono ?_); rintro e w1 ⟨rfl, rfl⟩)) | (go_at_call 189; ((with_reducible refine (CB.out _).mono ?_); rintro e w2 ⟨bx, cx, rfl, hfc, b2⟩; have hcx := conv_bytes cx (fresh_bs hfc (by omega)); rw [<- HX.out] at hcx; have HB2 := Lib.hid ((Below.refl wr.heap.size wr).drew.trans b2); have hcy := HCV.out _ HB2.out; rw [<- HY.out] at hcy; clear hfc)))
          all_goals
           go_wp2_with fail
           go_meet
           exact ⟨rfl, HB2⟩
         case rest =>
          obtain ⟨rfl, HB2⟩ := hcut
          cases d
          ·have hno : ¬ (Lib.encodeRuneZ c = L.take 2) := fun h => by have := HDQ.out.2 h; cases this
           have HXY := Lib.hid hno
           clear hno HO HBs
           go_wp2_with fail
           go_ret2
           exact .inr ⟨HFL.out (.inr (.inr HXY.out)), rfl, below_next HB0.out (below_next HB.out HB2.out)⟩
          ·have HXY := Lib.hid (HDQ.out.1 rfl)
           have HO2 := Lib.hid (kept_below HO.out HB2.out (Nat.le_refl _))
           go_wp2_with (at_builtin; refine wpList_append_own _ rfl _ _ 54 rfl w0.heap.size 3 i0 (.int .i64 0) 1 8 Tryz.underlying54 hi hz0 hz1 hz2 rfl (by decide) _ _ _ rfl (HO2.out.alloc _) ⟨wc.heap.size, 0, none⟩ 1 1 [.int .i64 c] rfl rfl (one_cell wc (.int .i64 c)) (one_ok c) (by unfold maxLen; omega) (by omega) (alloc_size (Nat.le_trans HB.out.size HB2.out.size) _) ?_; intro v' w3 hown' hgrow _; have HO3 := Lib.hid (made_next HO.out HB.out HB2.out hown' hgrow); have HS3 := Lib.hid (HBs0.out.from_ (i := 2) (by rw [<- HM.out]; omega) cp (by rw [<- HM.out]; omega)); clear hown' hgrow)
           go_roundw
           case rel =>
            have hr := Pr.ref_ok (L := L) (by rw [HRC.out, HRN.out]; exact HXY.out) (by rw [HRN.out, <- HM.out]; omega)
            rw [HRC.out, HRN.out] at hr
            refine ⟨p + 2, ds ++ [c], (if cp = 2 then some ⟨b, off, none⟩ else some ⟨b, off + 2, none⟩ : Option Addr), HG.out c 2 HIs.out hr HXY.out, ?_, Lib.hid ?_, Lib.hid HO3.out.1, Lib.hid HO3.out.2⟩
            ·rw [(HP.out.2 2).1, (HP.out.2 2).2, <- HM.out]
            ·rw [HL.out]; exact HS3.out
           case measure =>
            show m - 2 < m
            omega
      ·have hnl : m < 2 := by omega
       go_wp2_with fail
       go_ret2
       exact .inr ⟨HF.out (.inl (by rw [<- HM.out]; exact hnl)), rfl, below_next HB0.out HB.out⟩
     ·skip
      have hrn : Pr.refN (Ru.g L 0) = 1 := by unfold Pr.refN; rw [<- HA.out.1, if_neg (by omega), if_neg (by omega), if_neg (by omega)]
      have hrc : Pr.refC L = a0 := by unfold Pr.refC; rw [<- HA.out.1, <- HA.out.2.1, <- HA.out.2.2.1, <- HA.out.2.2.2, if_neg (by omega), if_neg (by omega), if_neg (by omega)]
      rw [hrn, hrc] at HF
      have HRN := Lib.hid hrn
      have HRC := Lib.hid hrc
      clear hrn hrc
      have hn : 1 <= m := by omega
      obtain ⟨c, hc⟩ : ∃ c, c = a0 := ⟨_, rfl⟩
      have hcb : -100000000 <= c /\ c <= 100000000 := by omega
      have hsl := fun W => upto_bytes b off m cp 1 (by omega) W
      have hsl2 := fun W => from_bytes (some ⟨b, off, none⟩) m cp 1 (by omega) W
      have hcv : ∀ W, Below wr.heap.size wr W -> (convert 22 9 (.slice (some ⟨b, off, none⟩) 1 cp)).run Tryz.prog W = .ok (.string (strOfNums (L.take 1))) W := fun W hW => by
       have h := conv_bytes cp ((HBs.out.upto 1 (by rw [<- HM.out]; omega)).below hW)
       rw [List.length_take, <- HM.out, Nat.min_eq_left (by omega)] at h
       exact h
      have HCV := Lib.hid hcv
      clear hcv
      rw [<- hc] at HF HRC
      have HFL : Hid (c < 0 ∨ Ru.isB c = false ∨ Lib.encodeRuneZ c ≠ L.take 1 -> ¬ ∃ cs, Pr.Txt t cs) := Lib.hid fun h => HF.out (.inr h)
      clear HF
      have hd : decide (c < 0) = false := decide_eq_false (by omega)
      have hc0 : 0 <= c := by omega
      have CI := Lib.hid (fun W => ris_any c W)
      cases his : Ru.isB c
      ·rw [his] at CI
       have HN := Lib.hid his
       clear his
       go_wp2_with fail
       refine wp_loop_rounds 1 ?_
       repeat (rw [rounds_succ]; go_wp2_with fail)
       rw [<- hc]
       clear hc
       go_quiet ((go_at_call 188; exact Calls.quiet_of_same ((CI.out _).mono fun _ _ h => ⟨h.1, h.2.symm⟩)))
       go_wp2_with fail
       go_ret2
       exact .inr ⟨HFL.out (.inr (.inl HN.out)), rfl, below_next HB0.out (below_drewN HB.out _)⟩
      ·rw [his] at CI
       have HIs := Lib.hid (Ru.isB_iff.1 his)
       have CB := Lib.hid (fun W => bytes_any c W HIs.out)
       have hel := Lib.encodeRuneZ_length c
       have hqe := bytes_eq (Pr.enc_by c) (HBY.out.take 1)
       have hcd := HCV.out wr.drew (Below.refl _ _).drew
       have hXs : (strOfNums (Lib.encodeRuneZ c)).size <= 4 := by rw [strOfNums_size]; omega
       obtain ⟨X, hX⟩ : ∃ X, X = strOfNums (Lib.encodeRuneZ c) := ⟨_, rfl⟩
       obtain ⟨Y, hY⟩ : ∃ Y, Y = strOfNums (L.take 1) := ⟨_, rfl⟩
       have HX := Lib.hid hX
       have HY := Lib.hid hY
       rw [<- hX] at hqe hXs
       rw [<- hY] at hqe hcd
       clear hX hY his
       have HQ : Hid (∃ d, (X.toList == Y.toList) = d /\ (d = true ↔ Lib.encodeRuneZ c = L.take 1)) := Lib.hid ⟨_, rfl, by rw [hqe, decide_eq_true_iff]⟩
       clear hqe
       obtain ⟨d, hqe, hdq⟩ := HQ.out
       have HDQ := Lib.hid hdq
       clear HQ hdq
       go_wp2_with fail
       refine wp_loop_rounds 1 ?_
       repeat (rw [rounds_succ]; go_wp2_with fail)
       go_upto_region 21 with fail
       rw [<- hc]
       clear hc
       go_cut [70] (fun s70 wc => s70 = .bool (!d) /\ Hid (Below wr.heap.size wr wc))
       case first =>
        clear HG HO HB HA HP HPR
        go_region_with (first | (go_at_call 188; ((with_reducible refine (CI.out _).mono ?_); rintro e w1 ⟨rfl, rfl⟩)) | (go_at_call 189; ((with_reducible refine (CB.out _).mono ?_); rintro e w2 ⟨bx, cx, rfl, hfc, b2⟩; have hcx := conv_bytes cx (fresh_bs hfc (by omega)); rw [<- HX.out] at hcx; have HB2 := Lib.hid ((Below.refl wr.heap.size wr).drew.trans b2); have hcy := HCV.out _ HB2.out; rw [<- HY.out] at hcy; clear hfc)))
        all_goals
         go_wp2_with fail
         go_meet
         exact ⟨rfl, HB2⟩
       case rest =>
        obtain ⟨rfl, HB2⟩ := hcut
        cases d
        ·have hno : ¬ (Lib.encodeRuneZ c = L.take 1) := fun h => by have := HDQ.out.2 h; cases this
         have HXY := Lib.hid hno
         clear hno HO HBs
         go_wp2_with fail
         go_ret2
         exact .inr ⟨HFL.out (.inr (.inr HXY.out)), rfl, below_next HB0.out (below_next HB.out HB2.out)⟩
        ·have HXY := Lib.hid (HDQ.out.1 rfl)
         have HO2 := Lib.hid (kept_below HO.out HB2.out (Nat.le_refl _))
         go_wp2_with (at_builtin; refine wpList_append_own _ rfl _ _ 54 rfl w0.heap.size 3 i0 (.int .i64 0) 1 8 Tryz.underlying54 hi hz0 hz1 hz2 rfl (by decide) _ _ _ rfl (HO2.out.alloc _) ⟨wc.heap.size, 0, none⟩ 1 1 [.int .i64 c] rfl rfl (one_cell wc (.int .i64 c)) (one_ok c) (by unfold maxLen; omega) (by omega) (alloc_size (Nat.le_trans HB.out.size HB2.out.size) _) ?_; intro v' w3 hown' hgrow _; have HO3 := Lib.hid (made_next HO.out HB.out HB2.out hown' hgrow); have HS3 := Lib.hid (HBs0.out.from_ (i := 1) (by rw [<- HM.out]; omega) cp (by rw [<- HM.out]; omega)); clear hown' hgrow)
         go_roundw
         case rel =>
          have hr := Pr.ref_ok (L := L) (by rw [HRC.out, HRN.out]; exact HXY.out) (by rw [HRN.out, <- HM.out]; omega)
          rw [HRC.out, HRN.out] at hr
          refine ⟨p + 1, ds ++ [c], (if cp = 1 then some ⟨b, off, none⟩ else some ⟨b, off + 1, none⟩ : Option Addr), HG.out c 1 HIs.out hr HXY.out, ?_, Lib.hid ?_, Lib.hid HO3.out.1, Lib.hid HO3.out.2⟩
          ·rw [(HP.out.2 1).1, (HP.out.2 1).2, <- HM.out]
          ·rw [HL.out]; exact HS3.out
         case measure =>
          show m - 1 < m
          omega
  ·have hpe : t.size - p = 0 := by omega
   have HD := Lib.hid (hch.done hlt)
   rw [hpe]
   clear hch HBs HBs0
   obtain ⟨A1, cap1, rfl, hc1, hB1⟩ := own_form HO.out
   go_wp2_with fail
   go_ret2
   exact .inl ⟨ds, A1, cap1, HD.out, rfl, hc1, hB1, below_next HB0.out HB.out⟩
theorem conv_back1 {W : World} {b : Nat} {x : Int} (h : W.cell? ⟨b, 0, none⟩ = some (.int .u8 x)) : (convert 22 9 (.slice (some ⟨b, 0, none⟩) 1 1)).run Tryz.prog W = .ok (.string (strOfNums [x])) W :=
 conv_bytes (w := W) (B := b + 1) (l := [x]) 1 (fun _ => ⟨b, 0, rfl, by omega, fun j hj => by
  rw [show j = 0 by simp at hj; omega]
  exact h⟩)
theorem lit_bs (w : World) (l : List Int) (E : TypeId) : Bs (w.alloc (.cells (nums .i64 l).toArray E)) (w.heap.size + 1) .i64 (some ⟨w.heap.size, 0, none⟩) l := fun _ => by
 refine ⟨w.heap.size, 0, rfl, by omega, fun j hj => ?_⟩
 have h := nums_get (k := .i64) hj
 rw [cell_of_row _ _ _ (nums .i64 l).toArray E (0, 0) (heap_alloc_new w _)]
 simpa using h
theorem str_size (l : List Int) : (Tk.str l).size = (Ru.wr l).length := by rw [<- Ru.bs_len, Pr.str_bs]
theorem g_in {l : List Int} {c : Int} : c ∈ l ↔ ∃ j, j < l.length /\ Ru.g l j = c := by
 rw [List.mem_iff_getElem]
 constructor
 ·rintro ⟨j, hj, e⟩; exact ⟨j, hj, by rw [Ru.g_eq hj]; exact e⟩
 ·rintro ⟨j, hj, e⟩; exact ⟨j, hj, by rw [<- Ru.g_eq hj]; exact e⟩
theorem in_any (l : List Int) (c : Int) (A : Option Addr) (cap B : Nat) (w : World) (h : Bs w B .i64 A l) (hl : l.length <= 100000) (b : Bool) (hb : b = true ↔ c ∈ l) :
 Calls Tryz.prog 147 #[.slice A l.length cap, .int .i64 c] w fun e w' => e = .returned (.bool b) /\ w = w' := by
 have H := Lib.hid h
 have HB := Lib.hid (hb.trans g_in)
 clear h hb
 go_enter Tryz.func147, Tryz.ntmps147
 go_wp2_with fail
 go_loopw [5] (fun v5 wr => ∃ k : Nat, k <= l.length /\ v5 = .int .i64 k /\ Hid (∀ j, j < k -> Ru.g l j ≠ c) /\ wr = w) (fun v5 _ => l.length - (RowKit.intOf v5).toNat)
 case atStart => exact ⟨0, Nat.zero_le _, rfl, Lib.hid (fun j hj => by omega), rfl⟩
 case round =>
  obtain ⟨k, hk, rfl, HK, rfl⟩ := hrel
  by_cases hlt : k < l.length
  ·obtain ⟨bb, off, rfl, _, hp⟩ := H.out (by omega)
   have hc := hp k hlt
   clear hp
   by_cases he : Ru.g l k = c
   ·have HE := Lib.hid (HB.out.2 ⟨k, hlt, he⟩)
    have he' : (Ru.g l k == c) = true := by rw [he]; exact beq_self_eq_true c
    go_wp2_with fail
    go_ret
    exact ⟨by rw [HE.out]; rfl, rfl⟩
   ·have he' : (Ru.g l k == c) = false := by rw [beq_eq_false_iff_ne]; exact he
    have HE := Lib.hid he
    clear he
    go_wp2_with fail
    go_roundw
    case rel =>
     refine ⟨k + 1, hlt, rfl, Lib.hid (fun j hj => ?_), trivial⟩
     by_cases e : j = k
     ·subst e; exact HE.out
     ·exact HK.out j (by omega)
    case measure => show l.length - (k + 1) < l.length - k; omega
  ·have HN : b = false := by
    cases b with
    | false => rfl
    | true =>
      obtain ⟨j, hj, e⟩ := HB.out.1 rfl
      exact absurd e (HK.out j (by omega))
   subst HN
   go_wp2_with fail
   go_ret
   exact ⟨rfl, rfl⟩
theorem rstop_any (n : Int) (w : World) :
 Calls Tryz.prog 148 #[.int .i64 n] w fun e w' => e = .returned (.int .i64 (Fx.stop n)) /\ w = w' := by
 go_enter Tryz.func148, Tryz.ntmps148
 go_wp2
 all_goals (go_ret; exact ⟨ret_int (by unfold Fx.stop; omega), rfl⟩)
theorem rstop_min (n : Int) (w : World) (h : 0 <= n) :
 Calls Tryz.prog 148 #[.int .i64 n] w fun e w' => e = .returned (.int .i64 (min n 1099511627776)) /\ w = w' := by
 refine (rstop_any n w).mono ?_
 rintro e w' ⟨he, hw⟩
 refine ⟨?_, hw⟩
 rw [he]; exact ret_int (by unfold Fx.stop; omega)
end Go.Proofs.YtkcabpjfgbghjaaGreatDoor
