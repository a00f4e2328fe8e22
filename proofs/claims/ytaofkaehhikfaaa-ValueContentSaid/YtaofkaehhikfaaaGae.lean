/-
  The walks of nest's within, leads and Skip.
-/
import Derived.Test.YtaofkaehhikfaaaGad
import Derived.Test.YtaofkaehhikfaaaGac
import Derived.Deep.RegionHeld3
import Derived.Deep.QuietTactic
import Derived.BigQuiet
import Derived.ScopeJumps
import Derived.LoopTactic
import Derived.Test.YtaofkaehhikfaaaGaa
import Derived.Deep.MidRow
import Derived.IntWalk
import Derived.Lib.Hide
import Derived.Deep.DeepCutAuto
import Derived.Deep.Cut
import Derived.Deep.CutRange
import Derived.Deep.RegionWith
import Derived.Outline
set_option maxHeartbeats 16000000
set_option maxRecDepth 100000
namespace Go.Proofs.Ytaofkaehhikfaaa
open Go.RowKit
theorem nwithin_any (ts : List Tk.Tok) (A : Option Addr) (ca : Nat) (fr tz : Int) (w : World) :
 Calls Try.prog 73 #[.slice A ts.length ca, .int .i64 fr, .int .i64 tz] w fun e w' => e = .returned (.bool (decide (Ns.okp ts fr tz))) /\ w = w' := by
 by_cases h1 : 0 <= fr
 ·have d1 : decide (0 <= fr) = true := decide_eq_true h1
  by_cases h2 : fr <= tz
  ·have d2 : decide (fr <= tz) = true := decide_eq_true h2
   by_cases h3 : tz <= (ts.length : Int)
   ·have d3 : decide (tz <= (ts.length : Int)) = true := decide_eq_true h3
    have HV : Hid (decide (Ns.okp ts fr tz) = true) := Lib.hid (decide_eq_true ⟨h1, h2, h3⟩)
    go_enter Try.func73, Try.ntmps73
    go_wp2_with fail
    go_ret
    exact ⟨by rw [HV.out]; rfl, rfl⟩
   ·have d3 : decide (tz <= (ts.length : Int)) = false := decide_eq_false h3
    have HV : Hid (decide (Ns.okp ts fr tz) = false) := Lib.hid (decide_eq_false fun c => h3 c.2.2)
    go_enter Try.func73, Try.ntmps73
    go_wp2_with fail
    go_ret
    exact ⟨by rw [HV.out]; rfl, rfl⟩
  ·have d2 : decide (fr <= tz) = false := decide_eq_false h2
   have HV : Hid (decide (Ns.okp ts fr tz) = false) := Lib.hid (decide_eq_false fun c => h2 c.2.1)
   go_enter Try.func73, Try.ntmps73
   go_wp2_with fail
   go_ret
   exact ⟨by rw [HV.out]; rfl, rfl⟩
 ·have d1 : decide (0 <= fr) = false := decide_eq_false h1
  have HV : Hid (decide (Ns.okp ts fr tz) = false) := Lib.hid (decide_eq_false fun c => h1 c.1)
  go_enter Try.func73, Try.ntmps73
  go_wp2_with fail
  go_ret
  exact ⟨by rw [HV.out]; rfl, rfl⟩
theorem nleads_any (es : List Int) (hm : es.length <= 65536) (hL : Ns.Lead es) (C : Option Addr) (cc : Nat) (a : Nat) (ha : a < es.length) (w : World) (h : Bs w w.heap.size .i64 C es) :
 Calls Try.prog 76 #[.slice C es.length cc, .int .i64 a] w fun e w' => e = .returned (.bool (!decide (Ru.g es a = -1))) /\ w = w' := by
 obtain ⟨b, off, rfl, hb, hp⟩ := h (by omega)
 have p0 := hp a ha
 rcases hL a ha with h1 | h1 | ⟨h1, h2, h3⟩
 ·have HV : Hid ((!decide (Ru.g es a = -1)) = false) := Lib.hid (by rw [h1]; rfl)
  rw [h1] at p0
  clear hp hL h h1
  go_enter Try.func76, Try.ntmps76
  go_wp2_with fail
  go_ret
  exact ⟨by rw [HV.out]; rfl, rfl⟩
 ·have HV : Hid ((!decide (Ru.g es a = -1)) = true) := Lib.hid (by rw [decide_eq_false (by omega)]; rfl)
  rw [h1] at p0
  clear hp hL h h1
  go_enter Try.func76, Try.ntmps76
  go_wp2_with fail
  go_ret
  exact ⟨by rw [HV.out]; rfl, rfl⟩
 ·have HV : Hid ((!decide (Ru.g es a = -1)) = true) := Lib.hid (by rw [decide_eq_false (by omega)]; rfl)
  obtain ⟨g, hg⟩ : ∃ g : Nat, Ru.g es a = g := ⟨(Ru.g es a).toNat, by omega⟩
  rw [hg] at p0 h1 h2 h3
  rw [Int.toNat_natCast] at h3
  have hgl : g < es.length := by omega
  have hag : a < g := by omega
  have p1 := hp g hgl
  rw [h3] at p1
  have hne : (g == es.length) = false := beq_false_of_ne (by omega)
  have hne2 : ((g : Int) == (es.length : Int)) = false := beq_false_of_ne (by omega)
  clear hp hL h h1 h2 h3 hg
  go_enter Try.func76, Try.ntmps76
  go_wp2_with fail
  go_ret
  exact ⟨by rw [HV.out]; rfl, rfl⟩
theorem skipC : SkipC := by
 intro es hF hL A cap a ha w h
 have hm := hF.1
 by_cases h0 : a < 0
 ·have d0 : decide (a < 0) = true := decide_eq_true h0
  have HV : Hid (Ns.skp es a = a + 1) := Lib.hid (Ns.skp_no fun c => by omega)
  clear h hF hL
  go_enter Try.func55, Try.ntmps55
  go_wp2_with fail
  go_ret
  exact ⟨by rw [HV.out]; rfl, Below.refl _ _⟩
 ·have d0 : decide (a < 0) = false := decide_eq_false h0
  obtain ⟨n, rfl⟩ : ∃ n : Nat, a = n := ⟨a.toNat, by omega⟩
  by_cases h1 : (es.length : Int) <= (n : Int)
  ·have d1 : decide ((es.length : Int) <= (n : Int)) = true := decide_eq_true h1
   have d2 : decide (es.length <= n) = true := decide_eq_true (by omega)
   have HV : Hid (Ns.skp es n = n + 1) := Lib.hid (Ns.skp_no fun c => by omega)
   clear h hF hL
   go_enter Try.func55, Try.ntmps55
   go_wp2_with fail
   go_ret
   exact ⟨by rw [HV.out]; rfl, Below.refl _ _⟩
  ·have d1 : decide ((es.length : Int) <= (n : Int)) = false := decide_eq_false h1
   have hlt : n < es.length := by omega
   have d2 : decide (es.length <= n) = false := decide_eq_false (by omega)
   have CL := Lib.hid (nleads_any es hm hL A cap n hlt w h)
   have hb2 := hF.2 n hlt
   by_cases h2 : Ru.g es n = -1
   ·have HV : Hid (Ns.skp es n = n + 1) := Lib.hid (Ns.skp_no fun c => by rw [Int.toNat_natCast] at c; omega)
    rw [decide_eq_true h2] at CL
    clear h hF hL h2 hb2
    go_enter Try.func55, Try.ntmps55
    go_wp2_with (go_at_call 76; ((with_reducible refine (CL.out).mono ?_); rintro e w1 ⟨rfl, rfl⟩))
    go_ret
    exact ⟨by rw [HV.out]; rfl, Below.refl _ _⟩
   ·have hge : (n : Int) <= Ru.g es n := by rcases hL n hlt with c | c | c <;> omega
    have HV : Hid (Ns.skp es n = min (Ru.g es n + 1) es.length) := Lib.hid (by rw [Ns.skp_yes (by omega) (by omega) (by rw [Int.toNat_natCast]; exact hge), Int.toNat_natCast])
    rw [decide_eq_false h2] at CL
    obtain ⟨b, off, rfl, hb, hp⟩ := h (by omega)
    have p0 := hp n hlt
    clear h hF hL h2 hp hge
    generalize Ru.g es n = x at *
    go_enter Try.func55, Try.ntmps55
    go_wp2_with (go_at_call 76; ((with_reducible refine (CL.out).mono ?_); rintro e w1 ⟨rfl, rfl⟩))
    go_ret
    exact ⟨by rw [HV.out]; rfl, Below.refl _ _⟩
theorem fits_any (ts : List Tk.Tok) (hm : ts.length <= 20000) (A C : Option Addr) (ca cc : Nat) (a : Nat) (ha : a < ts.length) (w : World) (h : Ts w w.heap.size A ts) (h2 : Bs w w.heap.size .i64 C (Ns.ends ts)) :
 Calls Try.prog 90 #[.slice A ts.length ca, .slice C (Ns.ends ts).length cc, .int .i64 a] w (Bo true w) := by
 have hel := Ns.ends_len ts
 have hae : a < (Ns.ends ts).length := by omega
 have CL : Hid (∀ W, Below w.heap.size w W -> Calls Try.prog 76 #[.slice C (Ns.ends ts).length cc, .int .i64 a] W fun e w' => e = .returned (.bool (!decide (Ru.g (Ns.ends ts) a = -1))) /\ W = w') :=
  Lib.hid fun W hb => nleads_any (Ns.ends ts) (by omega) (Ns.ends_lead ts) C cc a hae W (h2.next hb)
 have CC : Hid (∀ W, Calls Try.prog 81 #[.agg #[.int .i64 (Tk.tk ts a).1, .string (Tk.tk ts a).2.1, .int .i64 (Tk.tk ts a).2.2]] W (Sg (Ns.clo (Tk.tk ts a)) W)) := Lib.hid fun W => closing_any _ _ _ W
 obtain ⟨b, off, rfl, hb, hp⟩ := h2 (by omega)
 obtain ⟨bb, of2, rfl, hbb, hp2⟩ := h (by omega)
 have p0 := hp a hae
 obtain ⟨q0, q1, q2⟩ := hp2 a ha
 clear h h2
 by_cases hO : Ns.isO (Tk.tk ts a)
 ·have he := Ns.empty_f hO
  rcases Ns.ends_pair ha hO with hx | ⟨j, h1, h2, h3, h4, h5, h6⟩
  ·rw [hx] at p0 CL
   rw [show (!decide ((ts.length : Int) = -1)) = true by rw [decide_eq_false (by omega)]; rfl] at CL
   have HEL := Lib.hid hel
   clear hp hp2 hO hx hel
   generalize Ns.clo (Tk.tk ts a) = cl at *
   generalize Tk.tk ts a = u at *
   go_enter Try.func90, Try.ntmps90
   go_wp2_with (go_at_call 81; ((with_reducible refine (CC.out _).mono ?_); rintro e w1 ⟨rfl, b1⟩; have HB1 := Lib.hid b1; have r0 := (b1.cell (p := ⟨b, off + a, none⟩) hb).trans p0; clear b1))
   go_quiet ((go_at_call 76; exact Calls.quiet_of_same ((CL.out _ (below_drewN HB1.out _)).mono fun _ _ h => ⟨h.1, h.2.symm⟩)))
   go_wp2_with fail
   go_ret
   exact ⟨rfl, below_drewN HB1.out _⟩
  ·obtain ⟨s0, s1, s2⟩ := hp2 j h2
   have HV : Hid (decide (Ns.shuts (Tk.tk ts j) (Tk.tk ts a)) = true) := Lib.hid (decide_eq_true ⟨h4, h5⟩)
   have CT : Hid (∀ W, Calls Try.prog 82 #[.agg #[.int .i64 (Tk.tk ts j).1, .string (Tk.tk ts j).2.1, .int .i64 (Tk.tk ts j).2.2], .agg #[.int .i64 (Tk.tk ts a).1, .string (Tk.tk ts a).2.1, .int .i64 (Tk.tk ts a).2.2]] W (Bo true W)) := Lib.hid fun W => by
    have := ncloses_any (Tk.tk ts j).1 (Tk.tk ts j).2.1 (Tk.tk ts j).2.2 (Tk.tk ts a).1 (Tk.tk ts a).2.1 (Tk.tk ts a).2.2 W
    rw [show decide (Ns.shuts ((Tk.tk ts j).1, (Tk.tk ts j).2.1, (Tk.tk ts j).2.2) ((Tk.tk ts a).1, (Tk.tk ts a).2.1, (Tk.tk ts a).2.2)) = true from HV.out] at this
    exact this
   rw [h3] at p0 CL
   rw [show (!decide ((j : Int) = -1)) = true by rw [decide_eq_false (by omega)]; rfl] at CL
   have hne : (j == ts.length) = false := beq_false_of_ne (by omega)
   have hne2 : ((j : Int) == (ts.length : Int)) = false := beq_false_of_ne (by omega)
   have hj2 : (j : Int) < (ts.length : Int) := by omega
   have ha2 : (a : Int) < (ts.length : Int) := by omega
   have ha3 : (a : Int) < ((Ns.ends ts).length : Int) := by omega
   clear hp hp2 hO h3 h4 h5 h6 hel HV
   generalize Ns.clo (Tk.tk ts a) = cl at *
   generalize Tk.tk ts a = u at *
   generalize Tk.tk ts j = v at *
   generalize Ns.ends ts = es at *
   go_enter Try.func90, Try.ntmps90
   go_wp2_with (go_at_call 81; ((with_reducible refine (CC.out _).mono ?_); rintro e w1 ⟨rfl, b1⟩; have HB1 := Lib.hid b1; have r0 := (b1.cell (p := ⟨b, off + a, none⟩) hb).trans p0; have u0 := (b1.cell (p := ⟨bb, of2 + a * 3, none⟩) hbb).trans q0; have u1 := (b1.cell (p := ⟨bb, of2 + a * 3 + 1, none⟩) hbb).trans q1; have u2 := (b1.cell (p := ⟨bb, of2 + a * 3 + 2, none⟩) hbb).trans q2; have v0 := (b1.cell (p := ⟨bb, of2 + j * 3, none⟩) hbb).trans s0; have v1 := (b1.cell (p := ⟨bb, of2 + j * 3 + 1, none⟩) hbb).trans s1; have v2 := (b1.cell (p := ⟨bb, of2 + j * 3 + 2, none⟩) hbb).trans s2; clear b1))
   clear p0 q0 q1 q2 s0 s1 s2
   have hb1' := Nat.lt_of_lt_of_le hb HB1.out.size
   have hbb1 := Nat.lt_of_lt_of_le hbb HB1.out.size
   go_region_held3 (fun w' => w'.cell? ⟨b, off + a, none⟩ = some (.int .i64 j) /\ w'.cell? ⟨bb, of2 + a * 3, none⟩ = some (.int .i64 u.1) /\ w'.cell? ⟨bb, of2 + a * 3 + 1, none⟩ = some (.string u.2.1) /\ w'.cell? ⟨bb, of2 + a * 3 + 2, none⟩ = some (.int .i64 u.2.2) /\ w'.cell? ⟨bb, of2 + j * 3, none⟩ = some (.int .i64 v.1) /\ w'.cell? ⟨bb, of2 + j * 3 + 1, none⟩ = some (.string v.2.1) /\ w'.cell? ⟨bb, of2 + j * 3 + 2, none⟩ = some (.int .i64 v.2.2))
    (first | go_keep | (go_split_ands; exact ⟨(hb1.cell (p := ⟨b, off + a, none⟩) hb1').trans (by assumption), (hb1.cell (p := ⟨bb, of2 + a * 3, none⟩) hbb1).trans (by assumption), (hb1.cell (p := ⟨bb, of2 + a * 3 + 1, none⟩) hbb1).trans (by assumption), (hb1.cell (p := ⟨bb, of2 + a * 3 + 2, none⟩) hbb1).trans (by assumption), (hb1.cell (p := ⟨bb, of2 + j * 3, none⟩) hbb1).trans (by assumption), (hb1.cell (p := ⟨bb, of2 + j * 3 + 1, none⟩) hbb1).trans (by assumption), (hb1.cell (p := ⟨bb, of2 + j * 3 + 2, none⟩) hbb1).trans (by assumption)⟩))
    (first | (go_at_call 76; refine (CL.out _ HB1.out.drew).mono ?_; rintro e w2 ⟨rfl, rfl⟩) | (go_at_call 82; refine (CT.out _).mono ?_; rintro e w2 ⟨rfl, hb1⟩))
   have HB2 := Lib.hid (below_next HB1.out ((Below.refl _ _).drew.trans hb1))
   clear hb1 r0 u0 u1 u2 v0 v1 v2
   go_wp2_with fail
   go_ret
   exact ⟨rfl, HB2.out⟩
 ·have hcn := Ns.clo_none hO
  have hx : Ru.g (Ns.ends ts) a = -1 := Ns.ends_none ha hO
  rw [hx] at p0
  rw [hcn] at CC
  clear hp hp2 hO hcn hx CL
  generalize Tk.tk ts a = u at *
  go_enter Try.func90, Try.ntmps90
  go_wp2_with (go_at_call 81; ((with_reducible refine (CC.out _).mono ?_); rintro e w1 ⟨rfl, b1⟩; have HB1 := Lib.hid b1; have r0 := (b1.cell (p := ⟨b, off + a, none⟩) hb).trans p0; clear b1))
  go_ret
  exact ⟨rfl, HB1.out⟩
theorem cell_kept {w W : World} {bk : Nat} {v : Value} (hb : Below w.heap.size w W) (hl : bk < w.heap.size) (h : w.cell? ⟨bk, 0, none⟩ = some v) : W.cell? ⟨bk, 0, none⟩ = some v := (hb.cell (p := ⟨bk, 0, none⟩) hl).trans h
def FindJ (ts : List Tk.Tok) (S C : Value) (fr tz : Nat) (kd : Int) (is : Value) (w : World) (a' : Act) (wr : World) : Prop :=
 ∃ (x : Nat) (u5 u6 u7 u8 u9 u10 u11 u13 u14 u15 u16 u17 u18 u19 u20 u21 u22 u23 u24 u25 u26 u27 u28 u29 u30 u31 : Value), a' = { tmps := #[S, C, .int .i64 fr, .int .i64 tz, is, u5, u6, u7, u8, u9, u10, u11, .int .i64 x, u13, u14, u15, u16, u17, u18, u19, u20, u21, u22, u23, u24, u25, u26, u27, u28, u29, u30, u31], defers := [] } /\ x <= ts.length /\ Hid (Ns.fnd (Ns.isK ts kd) (Ns.plc (Ns.ends ts) tz fr) = Ns.fnd (Ns.isK ts kd) (Ns.plc (Ns.ends ts) tz x)) /\ Hid (Below w.heap.size w wr)
def atOf (a : Act) : Nat := (RowKit.intOf (a.tmps.getD 12 undef)).toNat
def Fd (n : Int) (w : World) (e : Ending) (w' : World) : Prop := e = .returned (.tuple #[.int .i64 n, .bool true]) /\ Below w.heap.size w w'
theorem isP_any (u : Tk.Tok) (bk : Nat) (kd : Int) (w : World) (hl : bk < w.heap.size) (h : w.cell? ⟨bk, 0, none⟩ = some (.int .i64 kd)) :
 Calls Try.prog 75 #[.agg #[.int .i64 u.1, .string u.2.1, .int .i64 u.2.2], .pointer (some ⟨bk, 0, none⟩)] w (Bo (decide (u.1 = kd)) w) := by
 obtain ⟨W0, hW⟩ : ∃ W0, W0 = w.alloc (.cells #[.int .i64 u.1, .string u.2.1, .int .i64 u.2.2] 36) := ⟨_, rfl⟩
 have hb0 : Below w.heap.size w W0 := by rw [hW]; exact (Below.refl _ _).alloc (Nat.le_refl _) _
 have k0 : W0.heap[w.heap.size]? = some (.cells #[.int .i64 u.1, .string u.2.1, .int .i64 u.2.2] 36 (0, 0)) := by rw [hW]; exact heap_alloc_new w _
 obtain ⟨p0, p1, p2⟩ := tok3_cells k0
 have q0 := cell_kept hb0 hl h
 have HB0 := Lib.hid hb0
 have HW := Lib.hid hW.symm
 clear hb0 k0 hW h
 by_cases hk : u.1 = kd
 ·have HV : Hid (decide (u.1 = kd) = true) := Lib.hid (decide_eq_true hk)
  rw [hk] at p0
  clear hk
  go_enter Try.func75, Try.ntmps75
  go_upto_region 1 with fail
  rw [HW.out]
  clear HW
  go_wp2_with fail
  go_ret
  exact ⟨by rw [HV.out]; rfl, HB0.out⟩
 ·have HV : Hid (decide (u.1 = kd) = false) := Lib.hid (decide_eq_false hk)
  have e : (u.1 == kd) = false := beq_false_of_ne hk
  clear hk
  go_enter Try.func75, Try.ntmps75
  go_upto_region 1 with fail
  rw [HW.out]
  clear HW
  go_wp2_with fail
  go_ret
  exact ⟨by rw [HV.out]; rfl, HB0.out⟩
theorem findP_any (ts : List Tk.Tok) (hm : ts.length <= 20000) (A C : Option Addr) (ca cc : Nat) (fr tz : Nat) (hfr : fr <= ts.length) (htz : tz <= ts.length) (kd : Int) (bk : Nat) (w : World) (hl : bk < w.heap.size) (hk : w.cell? ⟨bk, 0, none⟩ = some (.int .i64 kd)) (h : Ts w w.heap.size A ts) (h2 : Bs w w.heap.size .i64 C (Ns.ends ts)) :
 Calls Try.prog 74 #[.slice A ts.length ca, .slice C (Ns.ends ts).length cc, .int .i64 fr, .int .i64 tz, .func (Fn.func 75) #[] #[.pointer (some ⟨bk, 0, none⟩)]] w (Fd (Ns.fnd (Ns.isK ts kd) (Ns.plc (Ns.ends ts) tz fr)) w) := by
 have hel := Ns.ends_len ts
 have HF : Hid (∀ (x : Nat) (W : World), x < ts.length -> Below w.heap.size w W -> Calls Try.prog 90 #[.slice A ts.length ca, .slice C (Ns.ends ts).length cc, .int .i64 x] W (Bo true W)) := Lib.hid fun x W hx hb => fits_any ts hm A C ca cc x hx W (h.next hb) (h2.next hb)
 have HI : Hid (∀ (x : Nat) (W : World), Below w.heap.size w W -> Calls Try.prog 75 #[.agg #[.int .i64 (Tk.tk ts x).1, .string (Tk.tk ts x).2.1, .int .i64 (Tk.tk ts x).2.2], .pointer (some ⟨bk, 0, none⟩)] W (Bo (decide ((Tk.tk ts x).1 = kd)) W)) := Lib.hid fun x W hb => isP_any _ bk kd W (Nat.lt_of_lt_of_le hl hb.size) (cell_kept hb hl hk)
 have HK : Hid (∀ (x : Nat) (W : World), x < ts.length -> Below w.heap.size w W -> Calls Try.prog 55 #[.slice C (Ns.ends ts).length cc, .int .i64 x] W (Nu ((Ns.sk (Ns.ends ts) x : Nat) : Int) W)) := Lib.hid fun x W hx hb => by
  rw [Ns.sk_eq]; exact skipC _ (Ns.ends_fit (by omega)) (Ns.ends_lead ts) C cc x (by omega) W (h2.next hb)
 have H := Lib.hid h
 have HL : Hid (∀ x, x < ts.length -> Ns.sk (Ns.ends ts) x <= ts.length) := Lib.hid fun x hx => by
  have := Ns.sk_le (es := Ns.ends ts) (a := x) (by omega)
  omega
 clear h h2 hl hk hel
 go_enter Try.func74, Try.ntmps74
 go_wp2_with fail
 refine wp_scope_jumps 0 (fun a' wr => FindJ ts (.slice A ts.length ca) (.slice C (Ns.ends ts).length cc) fr tz kd (.func (Fn.func 75) #[] #[.pointer (some ⟨bk, 0, none⟩)]) w a' wr) (fun a' _ => tz - atOf a') rfl ?_ ?_
 ·go_wp2_with fail
  try go_step3
  have HN : Hid (Ns.fnd (Ns.isK ts kd) (Ns.plc (Ns.ends ts) tz fr) = Ns.fnd (Ns.isK ts kd) (Ns.plc (Ns.ends ts) tz fr)) := Lib.hid rfl
  have HB := Lib.hid (Below.refl w.heap.size w)
  by_cases hlt : fr < tz
  ·have hxl : fr < ts.length := by omega
   obtain ⟨bb, off, rfl, hbb, hp⟩ := H.out.next HB.out (by omega)
   obtain ⟨p0, p1, p2⟩ := hp fr hxl
   have CF := Lib.hid (HF.out fr _ hxl HB.out)
   have CI := Lib.hid (HI.out fr)
   have hsl := HL.out fr hxl
   have hgt := Ns.sk_gt (Ns.ends ts) fr
   have d1 : decide (tz <= fr) = false := decide_eq_false (by omega)
   clear hp HF HI HL
   by_cases hy : (Tk.tk ts fr).1 = kd
   ·have HV : Hid (Ns.fnd (Ns.isK ts kd) (Ns.plc (Ns.ends ts) tz fr) = fr) := Lib.hid (by rw [HN.out, Ns.plc_on hlt, Ns.fnd, if_pos (show Ns.isK ts kd fr = true from decide_eq_true hy)])
    rw [decide_eq_true hy] at CI
    clear hy HN HK hsl hgt
    generalize Tk.tk ts fr = u at *
    go_wp2_with (first | (go_at_call 90; ((with_reducible refine (CF.out).mono ?_); rintro e w1 ⟨rfl, b1⟩; have HB1 := Lib.hid (below_next HB.out b1); have r0 := (b1.cell (p := ⟨bb, off + fr * 3, none⟩) hbb).trans p0; have r1 := (b1.cell (p := ⟨bb, off + fr * 3 + 1, none⟩) hbb).trans p1; have r2 := (b1.cell (p := ⟨bb, off + fr * 3 + 2, none⟩) hbb).trans p2; clear b1)) | (go_at_call 75; ((with_reducible refine (CI.out _ HB1.out).mono ?_); rintro e w2 ⟨rfl, b2⟩; have HB2 := Lib.hid (below_next HB1.out b2); clear b2 r0 r1 r2)))
    simp only [Exit.jump]
    go_ret2
    exact ⟨by rw [HV.out]; rfl, HB2.out⟩
   ·have HV : Hid (Ns.fnd (Ns.isK ts kd) (Ns.plc (Ns.ends ts) tz fr) = Ns.fnd (Ns.isK ts kd) (Ns.plc (Ns.ends ts) tz (Ns.sk (Ns.ends ts) fr))) := Lib.hid (by rw [HN.out, Ns.plc_on hlt, Ns.fnd, if_neg (fun (c : Ns.isK ts kd fr = true) => hy (of_decide_eq_true c))])
    have CK := Lib.hid (fun W hb => HK.out fr W hxl hb)
    rw [decide_eq_false hy] at CI
    clear hy HN HK
    generalize Tk.tk ts fr = u at *
    go_wp2_with (first | (go_at_call 90; ((with_reducible refine (CF.out).mono ?_); rintro e w1 ⟨rfl, b1⟩; have HB1 := Lib.hid (below_next HB.out b1); have r0 := (b1.cell (p := ⟨bb, off + fr * 3, none⟩) hbb).trans p0; have r1 := (b1.cell (p := ⟨bb, off + fr * 3 + 1, none⟩) hbb).trans p1; have r2 := (b1.cell (p := ⟨bb, off + fr * 3 + 2, none⟩) hbb).trans p2; clear b1)) | (go_at_call 75; ((with_reducible refine (CI.out _ HB1.out).mono ?_); rintro e w2 ⟨rfl, b2⟩; have HB2 := Lib.hid (below_next HB1.out b2); clear b2 r0 r1 r2)) | (go_at_call 55; ((with_reducible refine (CK.out _ HB2.out).mono ?_); rintro e w3 ⟨rfl, b3⟩; have HB3 := Lib.hid (below_next HB2.out b3); clear b3)))
    go_step3
    exact ⟨rfl, ⟨_, _, _, _, _, _, _, _, _, _, _, _, _, _, _, _, _, _, _, _, _, _, _, _, _, _, _, rfl, hsl, HV, HB3⟩⟩
  ·have HV : Hid (Ns.fnd (Ns.isK ts kd) (Ns.plc (Ns.ends ts) tz fr) = -1) := Lib.hid (by rw [HN.out, Ns.plc_end hlt]; rfl)
   have d1 : decide (tz <= fr) = true := decide_eq_true (by omega)
   clear HF HI HL HN HK H
   go_wp2_with fail
   simp only [Exit.jump]
   go_ret2
   exact ⟨by rw [HV.out]; rfl, HB.out⟩
 ·rintro a' wr ⟨x, u5, u6, u7, u8, u9, u10, u11, u13, u14, u15, u16, u17, u18, u19, u20, u21, u22, u23, u24, u25, u26, u27, u28, u29, u30, u31, rfl, hx, HN, HB⟩
  by_cases hlt : x < tz
  ·have hxl : x < ts.length := by omega
   obtain ⟨bb, off, rfl, hbb, hp⟩ := H.out.next HB.out (by omega)
   obtain ⟨p0, p1, p2⟩ := hp x hxl
   have CF := Lib.hid (HF.out x _ hxl HB.out)
   have CI := Lib.hid (HI.out x)
   have hsl := HL.out x hxl
   have hgt := Ns.sk_gt (Ns.ends ts) x
   have d1 : decide (tz <= x) = false := decide_eq_false (by omega)
   clear hp HF HI HL
   by_cases hy : (Tk.tk ts x).1 = kd
   ·have HV : Hid (Ns.fnd (Ns.isK ts kd) (Ns.plc (Ns.ends ts) tz fr) = x) := Lib.hid (by rw [HN.out, Ns.plc_on hlt, Ns.fnd, if_pos (show Ns.isK ts kd x = true from decide_eq_true hy)])
    rw [decide_eq_true hy] at CI
    clear hy HN HK hsl hgt
    generalize Tk.tk ts x = u at *
    go_wp2_with (first | (go_at_call 90; ((with_reducible refine (CF.out).mono ?_); rintro e w1 ⟨rfl, b1⟩; have HB1 := Lib.hid (below_next HB.out b1); have r0 := (b1.cell (p := ⟨bb, off + x * 3, none⟩) hbb).trans p0; have r1 := (b1.cell (p := ⟨bb, off + x * 3 + 1, none⟩) hbb).trans p1; have r2 := (b1.cell (p := ⟨bb, off + x * 3 + 2, none⟩) hbb).trans p2; clear b1)) | (go_at_call 75; ((with_reducible refine (CI.out _ HB1.out).mono ?_); rintro e w2 ⟨rfl, b2⟩; have HB2 := Lib.hid (below_next HB1.out b2); clear b2 r0 r1 r2)))
    simp only [Exit.jump]
    go_ret2
    exact ⟨by rw [HV.out]; rfl, HB2.out⟩
   ·have HV : Hid (Ns.fnd (Ns.isK ts kd) (Ns.plc (Ns.ends ts) tz fr) = Ns.fnd (Ns.isK ts kd) (Ns.plc (Ns.ends ts) tz (Ns.sk (Ns.ends ts) x))) := Lib.hid (by rw [HN.out, Ns.plc_on hlt, Ns.fnd, if_neg (fun (c : Ns.isK ts kd x = true) => hy (of_decide_eq_true c))])
    have CK := Lib.hid (fun W hb => HK.out x W hxl hb)
    rw [decide_eq_false hy] at CI
    clear hy HN HK
    generalize Tk.tk ts x = u at *
    go_wp2_with (first | (go_at_call 90; ((with_reducible refine (CF.out).mono ?_); rintro e w1 ⟨rfl, b1⟩; have HB1 := Lib.hid (below_next HB.out b1); have r0 := (b1.cell (p := ⟨bb, off + x * 3, none⟩) hbb).trans p0; have r1 := (b1.cell (p := ⟨bb, off + x * 3 + 1, none⟩) hbb).trans p1; have r2 := (b1.cell (p := ⟨bb, off + x * 3 + 2, none⟩) hbb).trans p2; clear b1)) | (go_at_call 75; ((with_reducible refine (CI.out _ HB1.out).mono ?_); rintro e w2 ⟨rfl, b2⟩; have HB2 := Lib.hid (below_next HB1.out b2); clear b2 r0 r1 r2)) | (go_at_call 55; ((with_reducible refine (CK.out _ HB2.out).mono ?_); rintro e w3 ⟨rfl, b3⟩; have HB3 := Lib.hid (below_next HB2.out b3); clear b3)))
    go_step3
    exact ⟨rfl, ⟨_, _, _, _, _, _, _, _, _, _, _, _, _, _, _, _, _, _, _, _, _, _, _, _, _, _, _, rfl, hsl, HV, HB3⟩, by unfold atOf; simp [RowKit.intOf]; omega⟩
  ·have HV : Hid (Ns.fnd (Ns.isK ts kd) (Ns.plc (Ns.ends ts) tz fr) = -1) := Lib.hid (by rw [HN.out, Ns.plc_end hlt]; rfl)
   have d1 : decide (tz <= x) = true := decide_eq_true (by omega)
   clear HF HI HL HN HK H
   go_wp2_with fail
   simp only [Exit.jump]
   go_ret2
   exact ⟨by rw [HV.out]; rfl, HB.out⟩
theorem Try.infoPr : (Try.prog.info? 83).map (fun i => (i.zero, i.size, i.bytes)) = some (some (.agg #[.int .i64 0, .int .i64 0]), 2, 16) := by kernel_rfl
theorem two_ok (x y : Int) : ∀ u ∈ [Value.int .i64 x, .int .i64 y], u.oneCell' = true := by simp [Value.oneCell']
theorem app_pair {ops : Array Oper} {rest : List Oper} {o : Oper} {a : Act} {Q : Exit -> Act -> World -> Prop} {w0 wr : World} {v : Value} {ps : List (Nat × Nat)} (hgd : o.guard = none) (s x : Operand)
 (ho : o.op = .call { callee := .builtin .append, args := #[s, x], argTypes := #[81, 81] }) (hs : a.eval s = v) (H : Ow 83 2 w0 v ps.length (prC ps) wr) (b t : Nat) (c : Nat) (E' : TypeId)
 (hx : a.eval x = .slice (some ⟨wr.heap.size, 0, none⟩) 1 c) (hm : ps.length <= 1000000)
 (h : ∀ v' w3, Ow 83 2 w0 v' (ps ++ [(b, t)]).length (prC (ps ++ [(b, t)])) w3 -> wpList Try.prog ops Q rest (a.put o.dst v') w3) : wpList Try.prog ops Q (o :: rest) a (wr.alloc (.cells #[.int .i64 b, .int .i64 t] E')) := by
 obtain ⟨i0, hi, hz0, hz1, hz2⟩ := info_parts Try.infoPr
 refine app_own hgd s x 81 ho i0 _ 16 Try.underlying81 hi hz0 hz1 hz2 rfl (by decide) hs H [.int .i64 b, .int .i64 t] c E' _ rfl hx rfl (two_ok _ _) (by unfold maxLen; omega) (by omega) (fun v' w3 H3 => ?_)
 refine h v' w3 ?_
 unfold prC
 rw [List.length_append, Ns.flat_app, nums_app]
 exact H3
theorem Ns.fnd_spl (p : Nat -> Bool) (es : List Int) (tz : Nat) : ∀ (m x bg : Nat), tz - x <= m -> bg <= x ->
 (Ns.fnd p (Ns.plc es tz x) = -1 /\ Ns.spl p tz (Ns.plc es tz x) bg = [(bg, tz)]) ∨ ∃ f : Nat, Ns.fnd p (Ns.plc es tz x) = (f : Int) /\ x <= f /\ f < tz /\ Ns.spl p tz (Ns.plc es tz x) bg = (bg, f) :: Ns.spl p tz (Ns.plc es tz (Ns.sk es f)) (f + 1)
 | m, x, bg, hm, hb => by
   by_cases h : x < tz
   ·rw [Ns.plc_on h]
    by_cases hp : p x = true
    ·exact .inr ⟨x, by rw [Ns.fnd, if_pos hp], Nat.le_refl _, h, by rw [Ns.spl, if_pos ⟨hp, hb⟩]⟩
    ·rw [Ns.fnd, if_neg hp, Ns.spl, if_neg (fun c => hp c.1)]
     have hg := Ns.sk_gt es x
     match m, hm with
     | 0, hm => omega
     | m + 1, hm =>
       rcases Ns.fnd_spl p es tz m (Ns.sk es x) bg (by omega) (by omega) with h1 | ⟨f, h1, h2, h3⟩
       ·exact .inl h1
       ·exact .inr ⟨f, h1, by omega, h3⟩
   ·rw [Ns.plc_end h]
    exact .inl ⟨rfl, rfl⟩
def SplitJ (ts : List Tk.Tok) (S C : Value) (fr tz : Nat) (kd : Int) (w W0 : World) (a' : Act) (wr : World) : Prop :=
 ∃ (x bg : Nat) (v : Value) (pre : List (Nat × Nat)) (u5 u6 u7 u8 u10 u14 u15 u16 u17 u18 u19 u20 u21 u22 u23 u24 u25 u26 u27 u28 u29 u30 u31 u32 u33 u34 u35 u36 u37 u38 u39 u40 u41 u42 u43 u44 u45 u46 u47 u48 u49 u50 u51 u52 u53 u54 u55 u56 u57 u58 u59 : Value), a' = { tmps := #[S, C, .int .i64 fr, .int .i64 tz, .int .i64 kd, u5, u6, u7, u8, .pointer (some ⟨w.heap.size, 0, none⟩), u10, v, .int .i64 bg, .int .i64 x, u14, u15, u16, u17, u18, u19, u20, u21, u22, u23, u24, u25, u26, u27, u28, u29, u30, u31, u32, u33, u34, u35, u36, u37, u38, u39, u40, u41, u42, u43, u44, u45, u46, u47, u48, u49, u50, u51, u52, u53, u54, u55, u56, u57, u58, u59], defers := [] } /\ x <= ts.length /\ bg <= x /\ bg <= tz /\ pre.length <= x /\ Hid (Ns.spl (Ns.isK ts kd) tz (Ns.plc (Ns.ends ts) tz fr) fr = pre ++ Ns.spl (Ns.isK ts kd) tz (Ns.plc (Ns.ends ts) tz x) bg) /\ Hid (Ow 83 2 W0 v pre.length (prC pre) wr)
def at13 (a : Act) : Nat := (RowKit.intOf (a.tmps.getD 13 undef)).toNat
theorem nsplit_some (ts : List Tk.Tok) (hm : ts.length <= 20000) (A C : Option Addr) (ca cc : Nat) (fr tz : Nat) (hft : fr <= tz) (htz : tz <= ts.length) (kd : Int) (w : World) (h : Ts w w.heap.size A ts) (h2 : Bs w w.heap.size .i64 C (Ns.ends ts)) :
 Calls Try.prog 45 #[.slice A ts.length ca, .slice C ts.length cc, .int .i64 fr, .int .i64 tz, .int .i64 kd] w (ToldP (Ns.spl (Ns.isK ts kd) tz (Ns.plc (Ns.ends ts) tz fr) fr) w) := by
 have hmf : ∀ (fn : Fn) (first cap : Array Value) (w : World), (Instr.makeFunc fn first cap).run Try.prog w = .ok (.func fn first cap) w := fun _ _ _ _ => rfl
 have hel := Ns.ends_len ts
 obtain ⟨W0, hW⟩ : ∃ W0, W0 = w.alloc (.cells #[.int .i64 kd] 3) := ⟨_, rfl⟩
 have hb0 : Below w.heap.size w W0 := by rw [hW]; exact (Below.refl _ _).alloc (Nat.le_refl _) _
 have k0 : W0.heap[w.heap.size]? = some (.cells #[.int .i64 kd] 3 (0, 0)) := by rw [hW]; exact heap_alloc_new w _
 have c0 : W0.cell? ⟨w.heap.size, 0, none⟩ = some (.int .i64 kd) := by simp [World.cell?, k0]
 have hz0 : w.heap.size < W0.heap.size := by rw [hW]; simp
 have CI : Hid (∀ W, Calls Try.prog 73 #[.slice A ts.length ca, .int .i64 fr, .int .i64 tz] W fun e w' => e = .returned (.bool true) /\ W = w') := Lib.hid fun W => by
  have := nwithin_any ts A ca fr tz W
  rwa [show decide (Ns.okp ts fr tz) = true from decide_eq_true ⟨by omega, by omega, by omega⟩] at this
 have HF : Hid (∀ (x : Nat) (W : World), x <= ts.length -> Below W0.heap.size W0 W -> Calls Try.prog 74 #[.slice A ts.length ca, .slice C ts.length cc, .int .i64 x, .int .i64 tz, .func (Fn.func 75) #[] #[.pointer (some ⟨w.heap.size, 0, none⟩)]] W (Fd (Ns.fnd (Ns.isK ts kd) (Ns.plc (Ns.ends ts) tz x)) W)) := Lib.hid fun x W hx hb => by
  have := findP_any ts hm A C ca cc x tz hx htz kd w.heap.size W (Nat.lt_of_lt_of_le hz0 hb.size) (cell_kept hb hz0 c0) (h.next (below_next hb0 hb)) (h2.next (below_next hb0 hb))
  rwa [hel] at this
 have HK : Hid (∀ (x : Nat) (W : World), x < ts.length -> Below W0.heap.size W0 W -> Calls Try.prog 55 #[.slice C ts.length cc, .int .i64 x] W (Nu ((Ns.sk (Ns.ends ts) x : Nat) : Int) W)) := Lib.hid fun x W hx hb => by
  have := skipC _ (Ns.ends_fit (ts := ts) (by omega)) (Ns.ends_lead ts) C cc x (by omega) W (h2.next (below_next hb0 hb))
  rw [hel] at this
  rw [Ns.sk_eq]; exact this
 have HL : Hid (∀ x, x < ts.length -> Ns.sk (Ns.ends ts) x <= ts.length) := Lib.hid fun x hx => by
  have := Ns.sk_le (es := Ns.ends ts) (a := x) (by omega)
  omega
 have HB0 := Lib.hid hb0
 have HW := Lib.hid hW.symm
 clear h h2 hel hb0 k0 c0 hz0 hW
 go_enter Try.func45, Try.ntmps45
 go_upto_region 1 with fail
 rw [HW.out]
 clear HW
 go_wp2_with fail
 refine wp_scope_jumps 0 (fun a' wr => SplitJ ts (.slice A ts.length ca) (.slice C ts.length cc) fr tz kd w W0 a' wr) (fun a' _ => tz - at13 a') rfl ?_ ?_
 ·go_wp2_with (go_at_call 73; ((with_reducible refine (CI.out _).mono ?_); rintro e w1 ⟨rfl, rfl⟩))
  try go_step3
  have hfl : fr <= ts.length := by omega
  have hbx := Nat.le_refl fr
  obtain ⟨pre, hpre0⟩ : ∃ pre : List (Nat × Nat), pre = [] := ⟨[], rfl⟩
  have HN : Hid (Ns.spl (Ns.isK ts kd) tz (Ns.plc (Ns.ends ts) tz fr) fr = pre ++ Ns.spl (Ns.isK ts kd) tz (Ns.plc (Ns.ends ts) tz fr) fr) := Lib.hid (by rw [hpre0]; rfl)
  have HO : Hid (Ow 83 2 W0 (.slice none 0 0) pre.length (prC pre) W0) := Lib.hid (by rw [hpre0]; exact Ow.start _ _ (Below.refl _ _))
  have hpl : pre.length <= fr := by rw [hpre0]; simp
  clear hpre0
  have hp1 : pre.length <= 1000000 := by omega
  have CF := Lib.hid (HF.out fr _ hfl HO.out.bel)
  rcases Ns.fnd_spl (Ns.isK ts kd) (Ns.ends ts) tz _ fr fr (Nat.le_refl _) hbx with ⟨h1, h2⟩ | ⟨f, h1, h2, h3, h4⟩
  ·have HV : Hid (Ns.spl (Ns.isK ts kd) tz (Ns.plc (Ns.ends ts) tz fr) fr = pre ++ [(fr, tz)]) := Lib.hid (by rw [HN.out, h2])
   rw [h1] at CF
   clear h1 h2 HF HK HL HN
   go_wp2_with (first | (go_at_call 74; ((with_reducible refine (CF.out).mono ?_); rintro e w2 ⟨rfl, b2⟩; have HO2 := Lib.hid (HO.out.next b2); clear b2)) | (at_builtin; refine app_pair rfl _ _ rfl rfl HO2.out fr tz _ _ rfl hp1 ?_; intro v' w3 H3; have HO3 := Lib.hid H3; clear H3))
   simp only [Exit.jump]
   go_ret
   obtain ⟨A9, c9, rfl, hc9⟩ := HO3.out.form
   rw [HV.out]
   exact ⟨A9, c9, rfl, hc9, Bs.of_own2 HO3.out.own, below_next HB0.out HO3.out.bel⟩
  ·have HV : Hid (Ns.spl (Ns.isK ts kd) tz (Ns.plc (Ns.ends ts) tz fr) fr = (pre ++ [(fr, f)]) ++ Ns.spl (Ns.isK ts kd) tz (Ns.plc (Ns.ends ts) tz (Ns.sk (Ns.ends ts) f)) (f + 1)) := Lib.hid (by rw [HN.out, h4]; simp)
   have hfl2 : f < ts.length := by omega
   have CK := Lib.hid (fun W hb => HK.out f W hfl2 hb)
   have hsl := HL.out f hfl2
   have hgt := Ns.sk_gt (Ns.ends ts) f
   rw [h1] at CF
   clear h1 h4 HF HK HL HN
   go_wp2_with (first | (go_at_call 74; ((with_reducible refine (CF.out).mono ?_); rintro e w2 ⟨rfl, b2⟩; have HO2 := Lib.hid (HO.out.next b2); clear b2)) | (at_builtin; refine app_pair rfl _ _ rfl rfl HO2.out fr f _ _ rfl hp1 ?_; intro v' w3 H3; have HO3 := Lib.hid H3; clear H3) | (go_at_call 55; ((with_reducible refine (CK.out _ HO3.out.bel).mono ?_); rintro e w4 ⟨rfl, b4⟩; have HO5 := Lib.hid (HO3.out.next b4); clear b4)))
   go_step3
   exact ⟨rfl, ⟨Ns.sk (Ns.ends ts) f, f + 1, _, pre ++ [(fr, f)], _, _, _, _, _, _, _, _, _, _, _, _, _, _, _, _, _, _, _, _, _, _, _, _, _, _, _, _, _, _, _, _, _, _, _, _, _, _, _, _, _, _, _, _, _, _, _, _, _, _, _, rfl, hsl, hgt, by omega, (by rw [List.length_append]; simp only [List.length_singleton]; omega), HV, HO5⟩⟩
 ·rintro a' wr ⟨x, bg, v, pre, u5, u6, u7, u8, u10, u14, u15, u16, u17, u18, u19, u20, u21, u22, u23, u24, u25, u26, u27, u28, u29, u30, u31, u32, u33, u34, u35, u36, u37, u38, u39, u40, u41, u42, u43, u44, u45, u46, u47, u48, u49, u50, u51, u52, u53, u54, u55, u56, u57, u58, u59, rfl, hx, hbx, hbt, hpl, HN, HO⟩
  have hp1 : pre.length <= 1000000 := by omega
  have CF := Lib.hid (HF.out x _ hx HO.out.bel)
  rcases Ns.fnd_spl (Ns.isK ts kd) (Ns.ends ts) tz _ x bg (Nat.le_refl _) hbx with ⟨h1, h2⟩ | ⟨f, h1, h2, h3, h4⟩
  ·have HV : Hid (Ns.spl (Ns.isK ts kd) tz (Ns.plc (Ns.ends ts) tz fr) fr = pre ++ [(bg, tz)]) := Lib.hid (by rw [HN.out, h2])
   rw [h1] at CF
   clear h1 h2 HF HK HL HN
   go_wp2_with (first | (go_at_call 74; ((with_reducible refine (CF.out).mono ?_); rintro e w2 ⟨rfl, b2⟩; have HO2 := Lib.hid (HO.out.next b2); clear b2)) | (at_builtin; refine app_pair rfl _ _ rfl rfl HO2.out bg tz _ _ rfl hp1 ?_; intro v' w3 H3; have HO3 := Lib.hid H3; clear H3))
   simp only [Exit.jump]
   go_ret
   obtain ⟨A9, c9, rfl, hc9⟩ := HO3.out.form
   rw [HV.out]
   exact ⟨A9, c9, rfl, hc9, Bs.of_own2 HO3.out.own, below_next HB0.out HO3.out.bel⟩
  ·have HV : Hid (Ns.spl (Ns.isK ts kd) tz (Ns.plc (Ns.ends ts) tz fr) fr = (pre ++ [(bg, f)]) ++ Ns.spl (Ns.isK ts kd) tz (Ns.plc (Ns.ends ts) tz (Ns.sk (Ns.ends ts) f)) (f + 1)) := Lib.hid (by rw [HN.out, h4]; simp)
   have hfl2 : f < ts.length := by omega
   have CK := Lib.hid (fun W hb => HK.out f W hfl2 hb)
   have hsl := HL.out f hfl2
   have hgt := Ns.sk_gt (Ns.ends ts) f
   rw [h1] at CF
   clear h1 h4 HF HK HL HN
   go_wp2_with (first | (go_at_call 74; ((with_reducible refine (CF.out).mono ?_); rintro e w2 ⟨rfl, b2⟩; have HO2 := Lib.hid (HO.out.next b2); clear b2)) | (at_builtin; refine app_pair rfl _ _ rfl rfl HO2.out bg f _ _ rfl hp1 ?_; intro v' w3 H3; have HO3 := Lib.hid H3; clear H3) | (go_at_call 55; ((with_reducible refine (CK.out _ HO3.out.bel).mono ?_); rintro e w4 ⟨rfl, b4⟩; have HO5 := Lib.hid (HO3.out.next b4); clear b4)))
   go_step3
   exact ⟨rfl, ⟨Ns.sk (Ns.ends ts) f, f + 1, _, pre ++ [(bg, f)], _, _, _, _, _, _, _, _, _, _, _, _, _, _, _, _, _, _, _, _, _, _, _, _, _, _, _, _, _, _, _, _, _, _, _, _, _, _, _, _, _, _, _, _, _, _, _, _, _, _, _, rfl, hsl, hgt, by omega, (by rw [List.length_append]; simp only [List.length_singleton]; omega), HV, HO5⟩, by unfold at13; simp [RowKit.intOf]; omega⟩
theorem splitC : SplitC := by
 intro ts hm A C ca cc hca hcc fr tz kd hfr htz w h h2
 rw [Ns.ends_len]
 by_cases hok : Ns.okp ts fr tz
 ·have e : Ns.splR ts fr tz kd = Ns.spl (Ns.isK ts kd) tz.toNat (Ns.plc (Ns.ends ts) tz.toNat fr.toNat) fr.toNat := if_pos hok
  rw [e]
  obtain ⟨o1, o2, o3⟩ := hok
  obtain ⟨f, rfl⟩ : ∃ f : Nat, fr = f := ⟨fr.toNat, by omega⟩
  obtain ⟨t, rfl⟩ : ∃ t : Nat, tz = t := ⟨tz.toNat, by omega⟩
  rw [Int.toNat_natCast, Int.toNat_natCast]
  exact nsplit_some ts hm A C ca cc f t (by omega) (by omega) kd w h h2
 ·have HV : Hid (Ns.splR ts fr tz kd = []) := Lib.hid (if_neg hok)
  have CI : Hid (∀ W, Calls Try.prog 73 #[.slice A ts.length ca, .int .i64 fr, .int .i64 tz] W fun e w' => e = .returned (.bool false) /\ W = w') := Lib.hid fun W => by
   have := nwithin_any ts A ca fr tz W
   rwa [decide_eq_false hok] at this
  obtain ⟨W0, hW⟩ : ∃ W0, W0 = w.alloc (.cells #[.int .i64 kd] 3) := ⟨_, rfl⟩
  have HB0 : Hid (Below w.heap.size w W0) := Lib.hid (by rw [hW]; exact (Below.refl _ _).alloc (Nat.le_refl _) _)
  have HW := Lib.hid hW.symm
  clear h h2 hok hW
  go_enter Try.func45, Try.ntmps45
  go_upto_region 1 with fail
  rw [HW.out]
  clear HW
  go_wp2_with fail
  refine wp_scope_jumps 0 (fun _ _ => False) (fun _ _ => 0) rfl ?_ (fun _ _ h => h.elim)
  go_wp2_with (go_at_call 73; ((with_reducible refine (CI.out _).mono ?_); rintro e w1 ⟨rfl, rfl⟩))
  simp only [Exit.jump]
  go_ret
  rw [HV.out]
  exact ⟨none, 0, rfl, Nat.le_refl _, Bs.nil, HB0.out⟩
end Go.Proofs.Ytaofkaehhikfaaa
namespace Go.Proofs.Ytaofkaehhikfaaa
open Go.RowKit Vl
structure Vt (w : World) (L : List Tk.Tok) (A C : Option Addr) (c d : Nat) : Prop where
 hc : L.length <= c
 hd : L.length <= d
 ts : Ts w w.heap.size A L
 es : Bs w w.heap.size .i64 C (Ns.ends L)
theorem Vt.next {w w1 : World} {L : List Tk.Tok} {A C : Option Addr} {c d : Nat} (h : Vt w L A C c d) (hb : Below w.heap.size w w1) : Vt w1 L A C c d := ⟨h.hc, h.hd, h.ts.next hb, h.es.next hb⟩
abbrev vtV (A C : Option Addr) (n c d : Nat) : Value := .agg #[.slice A n c, .slice C n d]
abbrev vtO (A C : Option Addr) (n c d : Nat) : Obj := .cells #[.slice A n c, .slice C n d] 59
theorem vt_boxed (w : World) (A C : Option Addr) (n c d : Nat) : ∃ W0, w.alloc (vtO A C n c d) = W0 /\ Below w.heap.size w W0 /\ W0.heap[w.heap.size]? = some (vtO A C n c d) /\ w.heap.size < W0.heap.size :=
 ⟨_, rfl, (Below.refl _ _).alloc (Nat.le_refl _) _, heap_alloc_new w _, by simp⟩
theorem two_cells {w : World} {k : Nat} {x0 x1 : Value} {E : TypeId} (h : w.heap[k]? = some (.cells #[x0, x1] E (0, 0))) : w.cell? ⟨k, 0, none⟩ = some x0 /\ w.cell? ⟨k, 1, none⟩ = some x1 := by
 refine ⟨?_, ?_⟩ <;> simp [World.cell?, h]
def fnm (L : List Tk.Tok) (x : Nat) : ByteArray := if (Tk.tk L x).1 = 3 /\ Ru.g (Ns.ends L) x ≠ L.length then Ru.lowS (Tk.tk L x).2.1 else ⟨#[]⟩
theorem cfunction_any (L : List Tk.Tok) (hm : L.length <= 1000) (hs : ∀ x ∈ L, x.2.1.size <= 90000) (A C : Option Addr) (c d : Nat) (x : Nat) (hx : x < L.length) (w : World) (h : Vt w L A C c d) :
 Calls Try.prog 54 #[vtV A C L.length c d, .int .i64 x] w (Sg (fnm L x) w) := by
 obtain ⟨W0, hW, hb0, k0, _⟩ := vt_boxed w A C L.length c d
 obtain ⟨p0, p1⟩ := two_cells k0
 obtain ⟨b, off, rfl, hb, hp⟩ := h.ts (by omega)
 obtain ⟨q0, q1, q2⟩ := hp x hx
 have hel := Ns.ends_len L
 obtain ⟨b2, off2, rfl, hb2, hp2⟩ := h.es (by omega)
 have z0 := hp2 x (by omega)
 replace q0 := (hb0.cell (p := ⟨b, off + x * 3, none⟩) hb).trans q0
 replace q1 := (hb0.cell (p := ⟨b, off + x * 3 + 1, none⟩) hb).trans q1
 replace z0 := (hb0.cell (p := ⟨b2, off2 + x, none⟩) hb2).trans z0
 have HB0 := Lib.hid hb0
 have HW := Lib.hid hW
 have hsz := hs _ (tk_mem hx)
 have CL : Hid (∀ W, Calls Try.prog 47 #[.string (Tk.tk L x).2.1] W (Sg (Ru.lowS (Tk.tk L x).2.1) W)) := Lib.hid fun W => lower_any _ W hsz
 have HF : Hid (fnm L x = if (Tk.tk L x).1 = 3 /\ Ru.g (Ns.ends L) x ≠ L.length then Ru.lowS (Tk.tk L x).2.1 else ⟨#[]⟩) := Lib.hid rfl
 clear hb0 k0 hW h hp hp2 hs hsz hel
 generalize fnm L x = res at *
 generalize Ru.g (Ns.ends L) x = ex at *
 generalize Tk.tk L x = u at *
 obtain ⟨kd, tx, num⟩ := u
 simp only at *
 by_cases h3 : kd = 3
 ·have e3 : (kd != 3) = false := by simp [h3]
  by_cases he : ex = (L.length : Int)
  ·have ee : (ex == (L.length : Int)) = true := beq_iff_eq.2 he
   have HV : Hid (res = ⟨#[]⟩) := Lib.hid (by rw [HF.out, if_neg (fun c => c.2 he)])
   clear HF h3 he
   go_enter Try.func54, Try.ntmps54
   go_upto_region 1 with fail
   rw [HW.out]
   clear HW
   go_quiet (fail)
   go_wp2_with fail
   go_ret
   exact ⟨by rw [HV.out]; rfl, below_drewN HB0.out _⟩
  ·have ee : (ex == (L.length : Int)) = false := beq_false_of_ne he
   have HV : Hid (res = Ru.lowS tx) := Lib.hid (by rw [HF.out, if_pos ⟨h3, he⟩])
   clear HF h3 he
   go_enter Try.func54, Try.ntmps54
   go_upto_region 1 with fail
   rw [HW.out]
   clear HW
   go_quiet (fail)
   go_wp2_with (go_at_call 47; ((with_reducible refine (CL.out _).mono ?_); rintro e w1 ⟨rfl, b1⟩; have HB1 := Lib.hid ((below_drewN HB0.out _).trans (b1.mono (by simpa using HB0.out.size))); clear b1))
   go_ret
   exact ⟨by rw [HV.out]; rfl, HB1.out⟩
 ·have e3 : (kd != 3) = true := bne_iff_ne.2 h3
  have HV : Hid (res = ⟨#[]⟩) := Lib.hid (by rw [HF.out, if_neg (fun c => h3 c.1)])
  clear HF h3
  go_enter Try.func54, Try.ntmps54
  go_upto_region 1 with fail
  rw [HW.out]
  clear HW
  go_quiet (fail)
  go_wp2_with fail
  go_ret
  exact ⟨by rw [HV.out]; rfl, below_drewN HB0.out _⟩
end Go.Proofs.Ytaofkaehhikfaaa
namespace Go.Proofs.Ytaofkaehhikfaaa
open Go.RowKit Vl
namespace Vl
def Ss (w : World) (A : Option Addr) (l : List ByteArray) : Prop := 0 < l.length -> ∃ b off, A = some ⟨b, off, none⟩ /\ ∀ k (h : k < l.length), w.cell? ⟨b, off + k, none⟩ = some (.string l[k])
theorem ss_lit (w : World) (l : List ByteArray) (T : TypeId) : Ss (w.alloc (.cells (l.map Value.string).toArray T)) (some ⟨w.heap.size, 0, none⟩) l := fun _ => by
 refine ⟨_, _, rfl, fun k h => ?_⟩
 rw [Nat.zero_add, World.cell?_alloc_mark]
 simp [h]
theorem ix_drop {l : List ByteArray} {s : ByteArray} {k : Nat} (h : k < l.length) (j : Int) : ix (l.drop k) s j = if l[k] = s then j else ix (l.drop (k + 1)) s (j + 1) := by
 rw [List.drop_eq_getElem_cons h, ix]
theorem ix_le : ∀ (l : List ByteArray) (s : ByteArray) (k : Int), 0 <= k -> -1 <= ix l s k /\ ix l s k <= k + l.length
 | [], s, k, h => by rw [ix]; simp; omega
 | a :: r, s, k, h => by
   have ih := ix_le r s (k + 1) (by omega)
   rw [ix]
   split
   ·simp; omega
   ·simp; omega
end Vl
theorem vat_any (l : List ByteArray) (hl : l.length <= 1000) (A : Option Addr) (cap : Nat) (s : ByteArray) (w : World) (h : Ss w A l) : Calls Try.prog 49 #[.slice A l.length cap, .string s] w (Nu (ix l s 0) w) := by
 have H := Lib.hid h
 clear h
 go_enter Try.func49, Try.ntmps49
 go_wp2_with fail
 go_loopw [5] (fun v5 wr => ∃ k : Nat, k <= l.length /\ v5 = .int .i64 k /\ Hid (ix l s 0 = ix (l.drop k) s k) /\ wr = w) (fun v5 _ => l.length - (RowKit.intOf v5).toNat)
 case atStart => exact ⟨0, Nat.zero_le _, rfl, Lib.hid rfl, rfl⟩
 case round =>
  obtain ⟨k, hk, rfl, HR, rfl⟩ := hrel
  by_cases hlt : k < l.length
  ·obtain ⟨b, off, rfl, hp⟩ := H.out (by omega)
   have p0 := hp k hlt
   rw [ix_drop hlt] at HR
   clear hp
   by_cases hx : l[k] = s
   ·have hxb : (l[k].toList == s.toList) = true := by rw [hx]; simp
    rw [if_pos hx] at HR
    clear hx
    generalize l[k] = bk at *
    go_wp2_with fail
    go_ret
    exact ⟨by rw [HR.out]; rfl, Below.refl _ _⟩
   ·have hxb : (l[k].toList == s.toList) = false := by rw [str_same]; exact decide_eq_false hx
    rw [if_neg hx] at HR
    clear hx
    generalize l[k] = bk at *
    go_wp2_with fail
    go_roundw
    case rel => exact ⟨k + 1, by omega, by go_num, HR, trivial⟩
    case measure => simp [RowKit.intOf]; omega
  ·obtain rfl : k = l.length := by omega
   have HE : Hid (ix l s 0 = -1) := Lib.hid (by rw [HR.out, List.drop_length]; rfl)
   clear HR
   go_wp2_with fail
   go_ret
   exact ⟨by rw [HE.out]; rfl, Below.refl _ _⟩
theorem vstyle_any (s : ByteArray) (hs : s.size <= 90000) (w : World) : Calls Try.prog 32 #[.string s] w (Nu (sty (Ru.lowS s)) w) := by
 have C : Hid (∀ W, Calls Try.prog 50 #[.string s] W (Sg (Ru.lowS s) W)) := Lib.hid fun W => rlower_any _ hs W
 have HS := Lib.hid (sty_same (Ru.lowS s))
 clear hs
 generalize Ru.lowS s = ls at *
 generalize sty ls = res at *
 have CA : Hid (∀ W A, Ss W A styNames -> Calls Try.prog 49 #[.slice A 8 8, .string ls] W (Nu (ix styNames ls 0) W)) := Lib.hid fun W A h => vat_any styNames (by decide) A 8 ls W h
 by_cases c1 : ls = wLowerLatin
 ·have e1 := str_yesL [108, 111, 119, 101, 114, 45, 108, 97, 116, 105, 110] c1
  have HV : Hid (res = 4) := Lib.hid (by rw [HS.out, if_pos c1])
  clear HS c1
  go_enter Try.func32, Try.ntmps32
  go_wp2_with (go_at_call 50; ((with_reducible refine (C.out _).mono ?_); rintro e w1 ⟨rfl, b1⟩; have HB1 := Lib.hid b1; clear b1))
  go_ret
  exact ⟨by rw [HV.out]; rfl, HB1.out⟩
 ·have e1 := str_noL [108, 111, 119, 101, 114, 45, 108, 97, 116, 105, 110] c1
  by_cases c2 : ls = wUpperLatin
  ·have e2 := str_yesL [117, 112, 112, 101, 114, 45, 108, 97, 116, 105, 110] c2
   have HV : Hid (res = 5) := Lib.hid (by rw [HS.out, if_neg c1, if_pos c2])
   clear HS c1 c2
   go_enter Try.func32, Try.ntmps32
   go_wp2_with (go_at_call 50; ((with_reducible refine (C.out _).mono ?_); rintro e w1 ⟨rfl, b1⟩; have HB1 := Lib.hid b1; clear b1))
   go_ret
   exact ⟨by rw [HV.out]; rfl, HB1.out⟩
  ·have e2 := str_noL [117, 112, 112, 101, 114, 45, 108, 97, 116, 105, 110] c2
   have HV : Hid (res = ix styNames ls 0) := Lib.hid (by rw [HS.out, if_neg c1, if_neg c2])
   clear HS c1 c2
   go_enter Try.func32, Try.ntmps32
   go_wp2_with (first | (go_at_call 50; ((with_reducible refine (C.out _).mono ?_); rintro e w1 ⟨rfl, b1⟩; have HB1 := Lib.hid b1; clear b1)) | (go_at_call 49; ((refine (CA.out _ _ (ss_lit w1 styNames 9)).mono ?_); rintro e w2 ⟨rfl, b2⟩; have HB2 := Lib.hid (HB1.out.trans ((((Below.refl _ _).alloc (Nat.le_refl _) _).trans (b2.mono (by simp))).mono HB1.out.size)); clear b2)))
   go_ret
   exact ⟨by rw [HV.out]; rfl, HB2.out⟩
end Go.Proofs.Ytaofkaehhikfaaa
namespace Go.Proofs.Ytaofkaehhikfaaa
open Go.RowKit
theorem rclose_any (k : Int) (t : ByteArray) (n : Int) (w : World) : Calls Try.prog 87 #[tokV k t n] w (Sg (Ns.clo (k, t, n)) w) := by
 obtain ⟨W0, hW⟩ : ∃ W0, W0 = w.alloc (.cells #[.int .i64 k, .string t, .int .i64 n] 36) := ⟨_, rfl⟩
 have hb0 : Below w.heap.size w W0 := by rw [hW]; exact (Below.refl _ _).alloc (Nat.le_refl _) _
 have k0 : W0.heap[w.heap.size]? = some (.cells #[.int .i64 k, .string t, .int .i64 n] 36 (0, 0)) := by rw [hW]; exact heap_alloc_new w _
 obtain ⟨q0, q1, q2⟩ := tok3_cells k0
 have HB0 := Lib.hid hb0
 have HW := Lib.hid hW
 clear hb0 k0 hW
 unfold tokV
 by_cases h3 : k = 3
 ·subst h3
  have HV : Hid (Ns.clo (3, t, n) = ⟨#[41]⟩) := Lib.hid (by unfold Ns.clo; rw [if_pos (.inl rfl)])
  go_enter Try.func87, Try.ntmps87
  go_upto_region 1 with fail
  rw [<- HW.out]
  go_wp2_with fail
  go_ret
  exact ⟨by rw [HV.out]; rfl, HB0.out⟩
 ·have e3 : (k == 3) = false := beq_false_of_ne h3
  by_cases h12 : k = 12
  ·subst h12
   clear h3
   have cases4 : t = ⟨#[40]⟩ ∨ t = ⟨#[91]⟩ ∨ t = ⟨#[123]⟩ ∨ ((t.toList == [40]) = false /\ (t.toList == [91]) = false /\ (t.toList == [123]) = false) := by
    rw [str_test, str_test, str_test]
    by_cases a : t = ⟨#[40]⟩
    ·exact .inl a
    ·by_cases b : t = ⟨#[91]⟩
     ·exact .inr (.inl b)
     ·by_cases c : t = ⟨#[123]⟩
      ·exact .inr (.inr (.inl c))
      ·exact .inr (.inr (.inr ⟨decide_eq_false a, decide_eq_false b, decide_eq_false c⟩))
   have HV : Hid (t = ⟨#[40]⟩ ∨ t = ⟨#[91]⟩ ∨ t = ⟨#[123]⟩ ∨ Ns.clo (12, t, n) = ⟨#[]⟩) := Lib.hid (by
    rcases cases4 with h | h | h | ⟨h1, h2, h3⟩
    ·exact .inl h
    ·exact .inr (.inl h)
    ·exact .inr (.inr (.inl h))
    ·rw [str_test] at h1 h2 h3
     refine .inr (.inr (.inr ?_))
     unfold Ns.clo
     rw [if_neg (fun h => h.elim (fun h => by cases h) (fun h => of_decide_eq_false h1 h.2)), if_neg (fun h => of_decide_eq_false h2 h.2), if_neg (fun h => of_decide_eq_false h3 h.2)])
   rcases cases4 with rfl | rfl | rfl | ⟨e4, e5, e6⟩
   ·clear HV
    go_enter Try.func87, Try.ntmps87
    go_upto_region 1 with fail
    rw [<- HW.out]
    go_wp2_with fail
    go_ret
    exact ⟨rfl, HB0.out⟩
   ·clear HV
    go_enter Try.func87, Try.ntmps87
    go_upto_region 1 with fail
    rw [<- HW.out]
    go_wp2_with fail
    go_ret
    exact ⟨rfl, HB0.out⟩
   ·clear HV
    go_enter Try.func87, Try.ntmps87
    go_upto_region 1 with fail
    rw [<- HW.out]
    go_wp2_with fail
    go_ret
    exact ⟨rfl, HB0.out⟩
   ·have HV2 : Hid (Ns.clo (12, t, n) = ⟨#[]⟩) := Lib.hid (by
     rcases HV.out with h | h | h | h
     ·rw [str_test] at e4; exact absurd h (of_decide_eq_false e4)
     ·rw [str_test] at e5; exact absurd h (of_decide_eq_false e5)
     ·rw [str_test] at e6; exact absurd h (of_decide_eq_false e6)
     ·exact h)
    clear HV
    go_enter Try.func87, Try.ntmps87
    go_upto_region 1 with fail
    rw [<- HW.out]
    go_wp2_with fail
    go_ret
    exact ⟨by rw [HV2.out]; rfl, HB0.out⟩
  ·have e12 : (k == 12) = false := beq_false_of_ne h12
   have HV : Hid (Ns.clo (k, t, n) = ⟨#[]⟩) := Lib.hid (Ns.clo_none (Ns.not_O h3 h12))
   clear h3 h12
   go_enter Try.func87, Try.ntmps87
   go_upto_region 1 with fail
   rw [<- HW.out]
   go_wp2_with fail
   go_ret
   exact ⟨by rw [HV.out]; rfl, HB0.out⟩
def OpenAt (ts : List Tk.Tok) (at_ : Nat) (w : World) (v5 v6 : Value) (wr : World) : Prop :=
 ∃ k : Nat, k <= at_ /\ v6 = .int .i64 k /\ Ow 3 1 w v5 (Ns.ni (Ns.opn ts k)).length (nums .i64 (Ns.ni (Ns.opn ts k))) wr
theorem ropen_any (ts : List Tk.Tok) (hm : ts.length <= 65536) (A : Option Addr) (cap at_ : Nat) (hat : at_ <= ts.length) (w : World) (h : Ts w w.heap.size A ts) :
 Calls Try.prog 86 #[.slice A ts.length cap, .int .i64 at_] w (Made .i64 3 (Ns.ni (Ns.opn ts at_)) w) := by
 have H := Lib.hid h
 clear h
 go_enter Try.func86, Try.ntmps86
 go_wp2_with fail
 go_loopw [5, 6] (fun v5 v6 wr => OpenAt ts at_ w v5 v6 wr) (fun _ v6 _ => at_ - (RowKit.intOf v6).toNat)
 case atStart => exact ⟨0, Nat.zero_le _, rfl, Ow.start _ _ (Below.refl _ _)⟩
 case round =>
  obtain ⟨k, hk, rfl, hown⟩ := hrel
  have HO := Lib.hid hown
  clear hown
  by_cases hlt : k < at_
  ·obtain ⟨bb, off, rfl, hbb, hp⟩ := (H.out.next HO.out.bel) (by omega)
   obtain ⟨p0, p1, p2⟩ := hp k (by omega)
   have hol := Ns.opn_len ts k
   have hnl := Ns.ni_len (Ns.opn ts k)
   have HL := Lib.hid hnl
   have hol2 : (Ns.ni (Ns.opn ts k)).length <= 1000000 := by omega
   have HP := Lib.hid hp
   clear hp hnl
   have C : Hid (∀ W, Calls Try.prog 87 #[.agg #[.int .i64 (Tk.tk ts k).1, .string (Tk.tk ts k).2.1, .int .i64 (Tk.tk ts k).2.2]] W (Sg (Ns.clo (Tk.tk ts k)) W)) := Lib.hid fun W => rclose_any _ _ _ W
   by_cases hO : Ns.isO (Tk.tk ts k)
   ·have HN : Hid (Ns.ni (Ns.opn ts (k + 1)) = Ns.ni (Ns.opn ts k) ++ [(k : Int)]) := Lib.hid (by rw [Ns.opn_push hO, Ns.ni_app]; rfl)
    have he := Ns.empty_f hO
    clear hO HP HL
    generalize Ns.clo (Tk.tk ts k) = cl at *
    generalize Tk.tk ts k = u at *
    generalize Ns.ni (Ns.opn ts k) = ol at *
    go_wp2_with (first | (go_at_call 87; ((with_reducible refine (C.out _).mono ?_); rintro e w1 ⟨rfl, b1⟩; have HO1 := Lib.hid (HO.out.next b1); clear b1)) | (at_builtin; refine app_int rfl _ _ rfl rfl HO1.out (k : Int) _ _ rfl hol2 ?_; intro v' w3 H3; have HO3 := Lib.hid H3; clear H3))
    go_roundw
    case rel => exact ⟨k + 1, by omega, by go_num, by rw [HN.out]; exact HO3.out⟩
    case measure => simp [RowKit.intOf]; omega
   ·have hcn := Ns.clo_none hO
    by_cases h13 : (Tk.tk ts k).1 = 13
    ·have e13 : ((Tk.tk ts k).1 == 13) = true := by rw [h13]; rfl
     by_cases hl0 : 0 < (Ns.opn ts k).length
     ·have hol3 := HL.out
      obtain ⟨g, cv, rfl, _, hg0, hg1⟩ := HO.out.at_ (by omega)
      have htop := Ns.top_g hl0
      have hne : Ns.opn ts k ≠ [] := by intro e; rw [e] at hl0; simp at hl0
      have hTm := Ns.opn_lt (Ns.top_mem hne)
      have hgc := HO.out.cells (nums_get (k := .i64) (l := Ns.ni (Ns.opn ts k)) (j := (Ns.opn ts k).length - 1) (by omega))
      rw [htop] at hgc
      rw [<- hol3] at hgc
      obtain ⟨t0, t1, t2⟩ := HP.out (Ns.top (Ns.opn ts k)) (by omega)
      have CT : Hid (∀ W, Calls Try.prog 87 #[.agg #[.int .i64 (Tk.tk ts (Ns.top (Ns.opn ts k))).1, .string (Tk.tk ts (Ns.top (Ns.opn ts k))).2.1, .int .i64 (Tk.tk ts (Ns.top (Ns.opn ts k))).2.2]] W (Sg (Ns.clo (Tk.tk ts (Ns.top (Ns.opn ts k)))) W)) := Lib.hid fun W => rclose_any _ _ _ W
      have hcl := str_same (Ns.clo (Tk.tk ts (Ns.top (Ns.opn ts k)))) (Tk.tk ts k).2.1
      have HY : Hid (Ns.clo (Tk.tk ts (Ns.top (Ns.opn ts k))) = (Tk.tk ts k).2.1 -> Ns.ni (Ns.opn ts (k + 1)) = (Ns.ni (Ns.opn ts k)).take ((Ns.ni (Ns.opn ts k)).length - 1)) := Lib.hid fun h => by rw [Ns.opn_pop ⟨h13, hne, h⟩, Ns.ni_drop, Ns.ni_len]
      have HX : Hid (¬ Ns.clo (Tk.tk ts (Ns.top (Ns.opn ts k))) = (Tk.tk ts k).2.1 -> Ns.ni (Ns.opn ts (k + 1)) = Ns.ni (Ns.opn ts k)) := Lib.hid fun h => by rw [Ns.opn_keep hO (fun c => h c.2.2)]
      have hpos : 0 < (Ns.ni (Ns.opn ts k)).length := by omega
      have hz : decide (0 < (Ns.ni (Ns.opn ts k)).length) = true := decide_eq_true hpos
      have hz2 : decide (0 < ((Ns.ni (Ns.opn ts k)).length : Int)) = true := decide_eq_true (by omega)
      have hT1 : Ns.top (Ns.opn ts k) < ts.length := by omega
      rw [h13] at p0
      rw [hcn, h13] at C
      clear hO HP hcn h13 htop hl0 hne hTm hol3 HL e13
      generalize Ns.clo (Tk.tk ts (Ns.top (Ns.opn ts k))) = ct at *
      generalize Tk.tk ts (Ns.top (Ns.opn ts k)) = uu at *
      obtain ⟨uk, ut, un⟩ := uu
      generalize Ns.top (Ns.opn ts k) = T at *
      generalize (Tk.tk ts k).2.1 = tx at *
      generalize (Tk.tk ts k).2.2 = tn at *
      generalize Ns.ni (Ns.opn ts k) = ol at *
      simp only at t0 t1 t2 CT
      have hsub : IntKind.i64.wrap ((ol.length : Int) - 1) = (ol.length : Int) - 1 := IntWalk.i64_in _ (by omega)
      have hsn : ((ol.length : Int) - 1).toNat = ol.length - 1 := by omega
      have hsb : (0 : Int) <= (ol.length : Int) - 1 := by omega
      have hti : (T : Int) < (ts.length : Int) := by omega
      have hsl : (ol.length : Int) - 1 < (ol.length : Int) := by omega
      have hk0 : (0 : Int) <= (k : Int) := by omega
      have hs1 : (1 : Int) <= (ol.length : Int) := by omega
      have hs2 : 1 <= ol.length := by omega
      have hk1 : (k : Int) < (ts.length : Int) := by omega
      by_cases hc : ct = tx
      ·have e8 : (ct.toList == tx.toList) = true := by rw [hcl]; exact decide_eq_true hc
       have HN := Lib.hid (HY.out hc)
       clear HX HY hcl hc
       go_upto_region 7 with (first | (go_at_call 87; ((with_reducible refine (C.out _).mono ?_); rintro e w1 ⟨rfl, b1⟩; have HO1 := Lib.hid (HO.out.next b1); have r0 := (b1.cell (p := ⟨bb, off + k * 3, none⟩) hbb).trans p0; have r1 := (b1.cell (p := ⟨bb, off + k * 3 + 1, none⟩) hbb).trans p1; have s0 := (b1.cell (p := ⟨bb, off + T * 3, none⟩) hbb).trans t0; have s1 := (b1.cell (p := ⟨bb, off + T * 3 + 1, none⟩) hbb).trans t1; have s2 := (b1.cell (p := ⟨bb, off + T * 3 + 2, none⟩) hbb).trans t2; have gc := (b1.cell (p := ⟨g, ol.length - 1, none⟩) hg1).trans hgc; have hbb1 := Nat.lt_of_lt_of_le hbb b1.size; have hg2 := Nat.lt_of_lt_of_le hg1 b1.size; clear b1 C)))
       clear p0 p1 p2 t0 t1 t2 hgc hbb hg1
       go_region_held3 (fun w' => w'.cell? ⟨bb, off + k * 3, none⟩ = some (.int .i64 13) /\ w'.cell? ⟨bb, off + k * 3 + 1, none⟩ = some (.string tx) /\ w'.cell? ⟨bb, off + T * 3, none⟩ = some (.int .i64 uk) /\ w'.cell? ⟨bb, off + T * 3 + 1, none⟩ = some (.string ut) /\ w'.cell? ⟨bb, off + T * 3 + 2, none⟩ = some (.int .i64 un) /\ w'.cell? ⟨g, ol.length - 1, none⟩ = some (.int .i64 T))
        (first | go_keep | (go_split_ands; exact ⟨(hb1.cell (p := ⟨bb, off + k * 3, none⟩) hbb1).trans (by assumption), (hb1.cell (p := ⟨bb, off + k * 3 + 1, none⟩) hbb1).trans (by assumption), (hb1.cell (p := ⟨bb, off + T * 3, none⟩) hbb1).trans (by assumption), (hb1.cell (p := ⟨bb, off + T * 3 + 1, none⟩) hbb1).trans (by assumption), (hb1.cell (p := ⟨bb, off + T * 3 + 2, none⟩) hbb1).trans (by assumption), (hb1.cell (p := ⟨g, ol.length - 1, none⟩) hg2).trans (by assumption)⟩))
        (first | (go_at_call 87; refine (CT.out _).mono ?_; rintro e w2 ⟨rfl, hb1⟩))
       have HO2 := Lib.hid (HO1.out.next ((Below.refl _ _).drew.trans hb1))
       clear hb1 r0 r1 s0 s1 s2 gc hsub hsb hsn hti
       go_wp2_with fail
       go_roundw
       case rel => exact ⟨k + 1, by omega, by go_num, by rw [HN.out, nums_take, List.length_take, Nat.min_eq_left (Nat.sub_le _ _)]; have := HO2.out.cut (m := ol.length - 1) (Nat.sub_le _ _); rwa [Nat.mul_one] at this⟩
       case measure => simp [RowKit.intOf]; omega
      ·have e8 : (ct.toList == tx.toList) = false := by rw [hcl]; exact decide_eq_false hc
       have HN := Lib.hid (HX.out hc)
       clear HX HY hcl hc
       go_upto_region 7 with (first | (go_at_call 87; ((with_reducible refine (C.out _).mono ?_); rintro e w1 ⟨rfl, b1⟩; have HO1 := Lib.hid (HO.out.next b1); have r0 := (b1.cell (p := ⟨bb, off + k * 3, none⟩) hbb).trans p0; have r1 := (b1.cell (p := ⟨bb, off + k * 3 + 1, none⟩) hbb).trans p1; have s0 := (b1.cell (p := ⟨bb, off + T * 3, none⟩) hbb).trans t0; have s1 := (b1.cell (p := ⟨bb, off + T * 3 + 1, none⟩) hbb).trans t1; have s2 := (b1.cell (p := ⟨bb, off + T * 3 + 2, none⟩) hbb).trans t2; have gc := (b1.cell (p := ⟨g, ol.length - 1, none⟩) hg1).trans hgc; have hbb1 := Nat.lt_of_lt_of_le hbb b1.size; have hg2 := Nat.lt_of_lt_of_le hg1 b1.size; clear b1 C)))
       clear p0 p1 p2 t0 t1 t2 hgc hbb hg1
       go_region_held3 (fun w' => w'.cell? ⟨bb, off + k * 3, none⟩ = some (.int .i64 13) /\ w'.cell? ⟨bb, off + k * 3 + 1, none⟩ = some (.string tx) /\ w'.cell? ⟨bb, off + T * 3, none⟩ = some (.int .i64 uk) /\ w'.cell? ⟨bb, off + T * 3 + 1, none⟩ = some (.string ut) /\ w'.cell? ⟨bb, off + T * 3 + 2, none⟩ = some (.int .i64 un) /\ w'.cell? ⟨g, ol.length - 1, none⟩ = some (.int .i64 T))
        (first | go_keep | (go_split_ands; exact ⟨(hb1.cell (p := ⟨bb, off + k * 3, none⟩) hbb1).trans (by assumption), (hb1.cell (p := ⟨bb, off + k * 3 + 1, none⟩) hbb1).trans (by assumption), (hb1.cell (p := ⟨bb, off + T * 3, none⟩) hbb1).trans (by assumption), (hb1.cell (p := ⟨bb, off + T * 3 + 1, none⟩) hbb1).trans (by assumption), (hb1.cell (p := ⟨bb, off + T * 3 + 2, none⟩) hbb1).trans (by assumption), (hb1.cell (p := ⟨g, ol.length - 1, none⟩) hg2).trans (by assumption)⟩))
        (first | (go_at_call 87; refine (CT.out _).mono ?_; rintro e w2 ⟨rfl, hb1⟩))
       have HO2 := Lib.hid (HO1.out.next ((Below.refl _ _).drew.trans hb1))
       clear hb1 r0 r1 s0 s1 s2 gc hsub hsb hsn hti
       go_wp2_with fail
       go_roundw
       case rel => exact ⟨k + 1, by omega, by go_num, by rw [HN.out]; exact HO2.out⟩
       case measure => simp [RowKit.intOf]; omega
     ·have HN : Hid (Ns.ni (Ns.opn ts (k + 1)) = Ns.ni (Ns.opn ts k)) := Lib.hid (by rw [Ns.opn_keep hO (fun h => h.2.1 (List.eq_nil_of_length_eq_zero (by omega)))])
      have hz : decide (0 < (Ns.ni (Ns.opn ts k)).length) = false := decide_eq_false (by rw [HL.out]; exact hl0)
      have hz2 : decide (0 < ((Ns.ni (Ns.opn ts k)).length : Int)) = false := decide_eq_false (by rw [HL.out]; omega)
      obtain ⟨Av, cv, rfl, _⟩ := HO.out.form
      rw [hcn] at C
      clear hO HP HL hcn h13
      generalize Tk.tk ts k = u at *
      generalize Ns.ni (Ns.opn ts k) = ol at *
      go_wp2_with (first | (go_at_call 87; ((with_reducible refine (C.out _).mono ?_); rintro e w1 ⟨rfl, b1⟩; have HO1 := Lib.hid (HO.out.next b1); have r0 := (b1.cell (p := ⟨bb, off + k * 3, none⟩) hbb).trans p0; clear b1)))
      go_quiet (fail)
      go_wp2_with fail
      go_roundw
      case rel => exact ⟨k + 1, by omega, by go_num, by rw [HN.out]; exact HO1.out.drewN _⟩
      case measure => simp [RowKit.intOf]; omega
    ·have HN : Hid (Ns.opn ts (k + 1) = Ns.opn ts k) := Lib.hid (Ns.opn_keep hO (fun h => h13 h.1))
     have e13 : ((Tk.tk ts k).1 == 13) = false := beq_false_of_ne h13
     rw [hcn] at C
     clear hO HP HL hcn h13
     generalize Tk.tk ts k = u at *
     generalize Ns.opn ts k = ol at *
     go_wp2_with (first | (go_at_call 87; ((with_reducible refine (C.out _).mono ?_); rintro e w1 ⟨rfl, b1⟩; have HO1 := Lib.hid (HO.out.next b1); have r0 := (b1.cell (p := ⟨bb, off + k * 3, none⟩) hbb).trans p0; clear b1)))
     go_quiet (fail)
     go_wp2_with fail
     go_roundw
     case rel => exact ⟨k + 1, by omega, by go_num, by rw [HN.out]; exact HO1.out.drewN _⟩
     case measure => simp [RowKit.intOf]; omega
  ·obtain rfl : k = at_ := by omega
   go_wp2_with fail
   go_ret
   exact made_of HO.out rfl
def EndsAt (ts : List Tk.Tok) (w : World) (v4 v5 : Value) (wr : World) : Prop :=
 ∃ k : Nat, k <= ts.length /\ v5 = .int .i64 k /\ Ow 3 1 w v4 ((Ns.ends ts).take k).length (nums .i64 ((Ns.ends ts).take k)) wr /\ Hid (∀ j, j < k -> (Ns.opn ts (j + 1)).length <= 64)
theorem rends_any (ts : List Tk.Tok) (hm : ts.length <= 65536) (A : Option Addr) (cap : Nat) (w : World) (h : Ts w w.heap.size A ts) :
 Calls Try.prog 68 #[.slice A ts.length cap] w (EndsIs ts w) := by
 have HC : Hid (∀ (j : Nat) (W : World), j < ts.length -> Below w.heap.size w W -> Calls Try.prog 86 #[.slice A ts.length cap, .int .i64 ((j : Int) + 1)] W (Told .i64 (Ns.ni (Ns.opn ts (j + 1))) W)) :=
  Lib.hid fun j W hj hb => (ropen_any ts hm A cap (j + 1) hj W (h.next hb)).mono fun e w' hh => told hh
 have H := Lib.hid h
 clear h
 have hel := Ns.ends_len ts
 have HEL := Lib.hid hel
 clear hel
 go_enter Try.func68, Try.ntmps68
 go_wp2_with fail
 go_loopw [4, 5] (fun v4 v5 wr => EndsAt ts w v4 v5 wr) (fun _ v5 _ => ts.length - (RowKit.intOf v5).toNat)
 case atStart => exact ⟨0, Nat.zero_le _, rfl, Ow.start _ _ (Below.refl _ _), Lib.hid (fun j hj => by omega)⟩
 case round =>
  obtain ⟨k, hk, rfl, hown, HD⟩ := hrel
  have HO := Lib.hid hown
  clear hown
  by_cases hlt : k < ts.length
  ·have CO := Lib.hid (HC.out k _ hlt HO.out.bel)
   have hol : 0 < (Ns.opn ts (k + 1)).length ∨ ¬ Ns.isO (Tk.tk ts k) := by
    by_cases hO : Ns.isO (Tk.tk ts k)
    ·left; rw [Ns.opn_push hO]; simp
    ·exact .inr hO
   have hnl := Ns.ni_len (Ns.opn ts (k + 1))
   have hle := Ns.opn_len ts (k + 1)
   by_cases h64 : 64 < (Ns.opn ts (k + 1)).length
   ·have HV : Hid (Ns.deep ts) := Lib.hid ⟨k, hlt, h64⟩
    have d1 : decide (64 < (Ns.ni (Ns.opn ts (k + 1))).length) = true := decide_eq_true (by omega)
    have d2 : decide (64 < ((Ns.ni (Ns.opn ts (k + 1))).length : Int)) = true := decide_eq_true (by omega)
    clear h64 hnl hle hol HD
    generalize Ns.ni (Ns.opn ts (k + 1)) = ol at *
    go_wp2_with (first | (go_at_call 86; ((with_reducible refine (CO.out).mono ?_); rintro e w1 ⟨A1, c1, rfl, hc1, B1, b1⟩; have HB1 := Lib.hid (below_next HO.out.bel b1); clear b1 B1)))
    go_ret2
    exact ⟨fun h => absurd HV.out h, fun _ => ⟨rfl, HB1.out⟩⟩
   ·have d1 : decide (64 < (Ns.ni (Ns.opn ts (k + 1))).length) = false := decide_eq_false (by omega)
    have d2 : decide (64 < ((Ns.ni (Ns.opn ts (k + 1))).length : Int)) = false := decide_eq_false (by omega)
    have HD2 : Hid (∀ j, j < k + 1 -> (Ns.opn ts (j + 1)).length <= 64) := Lib.hid fun j hj => by
     by_cases e : j = k
     ·subst e; omega
     ·exact HD.out j (by omega)
    have HN : Hid ((Ns.ends ts).take (k + 1) = (Ns.ends ts).take k ++ [Ru.g (Ns.ends ts) k]) := Lib.hid (Ru.take_g (by rw [HEL.out]; exact hlt))
    have htl : ((Ns.ends ts).take k).length <= 1000000 := by have := List.length_take_le k (Ns.ends ts); omega
    obtain ⟨bb, off, rfl, hbb, hp⟩ := (H.out.next HO.out.bel) (by omega)
    obtain ⟨p0, p1, p2⟩ := hp k hlt
    clear hp
    have C : Hid (∀ W, Calls Try.prog 87 #[.agg #[.int .i64 (Tk.tk ts k).1, .string (Tk.tk ts k).2.1, .int .i64 (Tk.tk ts k).2.2]] W (Sg (Ns.clo (Tk.tk ts k)) W)) := Lib.hid fun W => rclose_any _ _ _ W
    clear HD
    by_cases hO : Ns.isO (Tk.tk ts k)
    ·have he := Ns.empty_f hO
     have HLO : Hid ((Ns.ni (Ns.opn ts (k + 1))).length = (Ns.opn ts (k + 1)).length) := Lib.hid hnl
     have hlo1 : 0 < (Ns.opn ts (k + 1)).length := by rw [Ns.opn_push hO]; simp
     have HK0 := Lib.hid (Ns.known_start ts k)
     have HSI : Hid (∀ j, k <= j -> (k ∈ Ns.opn ts (j + 1) ↔ ((Ns.opn ts (k + 1)).length <= (Ns.opn ts (j + 1)).length /\ (Ns.opn ts (j + 1)).getD ((Ns.opn ts (k + 1)).length - 1) 0 = k))) := Lib.hid fun j hj => Ns.stay_iff hO hj
     have HKE : Hid (∀ e : Int, Ns.Known ts k (k + 1) e -> e = Ru.g (Ns.ends ts) k) := Lib.hid fun e h => Ns.known_end hO h
     clear hO h64 hol hnl
     generalize Tk.tk ts k = u at *
     generalize Ns.clo u = cl at *
     generalize Ns.ni (Ns.opn ts (k + 1)) = ol at *
     generalize (Ns.opn ts (k + 1)).length = lo at *
     generalize (Ns.ends ts).take k = el at *
     obtain ⟨A4, c4, rfl, _⟩ := HO.out.form
     go_wp2_with (first | (go_at_call 86; ((with_reducible refine (CO.out).mono ?_); rintro e w1 ⟨A1, c1, rfl, hc1, B1, b1⟩; have HO1 := Lib.hid (HO.out.next b1); have r0 := (b1.cell (p := ⟨bb, off + k * 3, none⟩) hbb).trans p0; have r1 := (b1.cell (p := ⟨bb, off + k * 3 + 1, none⟩) hbb).trans p1; have r2 := (b1.cell (p := ⟨bb, off + k * 3 + 2, none⟩) hbb).trans p2; clear b1 B1)) | (go_at_call 87; ((with_reducible refine (C.out _).mono ?_); rintro e w2 ⟨rfl, b2⟩; have HO2 := Lib.hid (HO1.out.next b2); clear b2)))
     obtain ⟨wo, rfl⟩ : ∃ wo : World, wo = w2 := ⟨_, rfl⟩
     clear HO HO1 r0 r1 r2 p0 p1 p2 CO C he
     go_loopw [7, 8] (fun v7 v8 wi => ∃ (j : Nat) (x : Int), k <= j /\ j < ts.length /\ v8 = .int .i64 j /\ v7 = .int .i64 x /\ Hid (Ns.Known ts k (j + 1) x) /\ Hid (Ow 3 1 w (.slice A4 el.length c4) el.length (nums .i64 el) wi)) (fun _ v8 _ => (RowKit.intOf v8).toNat)
     case atStart => exact ⟨ts.length - 1, ts.length, by omega, by omega, by first | rfl | (congr 1; omega), rfl, by rw [show ts.length - 1 + 1 = ts.length by omega]; exact HK0, HO2⟩
     case round =>
      obtain ⟨j, x, hj1, hj2, rfl, rfl, HX, HOi⟩ := hrel
      by_cases hjk : k < j
      ·have CI := Lib.hid (HC.out j _ hj2 HOi.out.bel)
       have hln := Ns.ni_len (Ns.opn ts (j + 1))
       have HSj := Lib.hid (HSI.out j hj1)
       have hlo2 := HLO.out
       have HJ3 : Hid (j - 1 + 1 = j) := Lib.hid (by omega)
       clear HSI HKE HN HD2 HC HK0
       have hsub : IntKind.i64.wrap ((ol.length : Int) - 1) = (ol.length : Int) - 1 := IntWalk.i64_in _ (by omega)
       have hsn : ((ol.length : Int) - 1).toNat = ol.length - 1 := by omega
       have hs1 : (1 : Int) <= (ol.length : Int) := by omega
       by_cases hll : (Ns.opn ts (j + 1)).length < lo
       ·have HV : Hid (Ns.Known ts k j j) := Lib.hid (Ns.known_new hj2 (fun h => by have := (HSj.out.1 h).1; omega))
        have d3 : decide ((Ns.ni (Ns.opn ts (j + 1))).length < ol.length) = true := decide_eq_true (by omega)
        clear HSj hln hlo2 HLO hll
        generalize Ns.ni (Ns.opn ts (j + 1)) = nl at *
        go_wp2_with (first | (go_at_call 86; ((with_reducible refine (CI.out).mono ?_); rintro e w3 ⟨A3, c3, rfl, hc3, B3, b3⟩; have HO3 := Lib.hid (HOi.out.next b3); clear B3; clear b3)))
        go_roundw
        case rel => exact ⟨j - 1, (j : Int), by omega, by omega, by first | rfl | (congr 1; omega), rfl, by rw [HJ3.out]; exact HV, HO3⟩
        case measure => simp [RowKit.intOf]; omega
       ·have hg : Ru.g (Ns.ni (Ns.opn ts (j + 1))) (ol.length - 1) = (((Ns.opn ts (j + 1)).getD (lo - 1) 0 : Nat) : Int) := by rw [hlo2]; exact Ns.ni_g (by omega)
        have d3 : decide ((Ns.ni (Ns.opn ts (j + 1))).length < ol.length) = false := decide_eq_false (by omega)
        have hpos : 0 < (Ns.ni (Ns.opn ts (j + 1))).length := by omega
        have hix : ((ol.length : Int) - 1) < ((Ns.ni (Ns.opn ts (j + 1))).length : Int) := by omega
        have hix2 : ol.length - 1 < (Ns.ni (Ns.opn ts (j + 1))).length := by omega
        by_cases hv : (Ns.opn ts (j + 1)).getD (lo - 1) 0 = k
        ·have hmem : k ∈ Ns.opn ts (j + 1) := HSj.out.2 ⟨by omega, hv⟩
         have HV : Hid (Ns.Known ts k j x) := Lib.hid (Ns.known_same HX.out hmem)
         rw [hv] at hg
         have HG := Lib.hid hg
         clear HSj hln hlo2 HLO hll hv hmem hg
         generalize Ns.ni (Ns.opn ts (j + 1)) = nl at *
         go_wp2_with (first | (go_at_call 86; ((with_reducible refine (CI.out).mono ?_); rintro e w3 ⟨A3, c3, rfl, hc3, B3, b3⟩; have HO3 := Lib.hid (HOi.out.next b3); obtain ⟨b3b, o3, rfl, hb3, hp3⟩ := B3 hpos; have c3g := hp3 (ol.length - 1) hix2; rw [HG.out] at c3g; clear hp3 B3; clear b3)))
         go_roundw
         case rel => exact ⟨j - 1, x, by omega, by omega, by first | rfl | (congr 1; omega), rfl, by rw [HJ3.out]; exact HV, HO3⟩
         case measure => simp [RowKit.intOf]; omega
        ·have HV : Hid (Ns.Known ts k j j) := Lib.hid (Ns.known_new hj2 (fun h => hv (HSj.out.1 h).2))
         have hb1 : ((((Ns.opn ts (j + 1)).getD (lo - 1) 0 : Nat) : Int) != (k : Int)) = true := Ru.ne_t (by omega)
         have hb2 : (((Ns.opn ts (j + 1)).getD (lo - 1) 0) != k) = true := by simpa using hv
         have HG := Lib.hid hg
         clear HSj hln hlo2 HLO hll hg hv
         generalize (Ns.opn ts (j + 1)).getD (lo - 1) 0 = y at *
         generalize Ns.ni (Ns.opn ts (j + 1)) = nl at *
         go_wp2_with (first | (go_at_call 86; ((with_reducible refine (CI.out).mono ?_); rintro e w3 ⟨A3, c3, rfl, hc3, B3, b3⟩; have HO3 := Lib.hid (HOi.out.next b3); obtain ⟨b3b, o3, rfl, hb3, hp3⟩ := B3 hpos; have c3g := hp3 (ol.length - 1) hix2; rw [HG.out] at c3g; clear hp3 B3; clear b3)))
         go_roundw
         case rel => exact ⟨j - 1, (j : Int), by omega, by omega, by first | rfl | (congr 1; omega), rfl, by rw [HJ3.out]; exact HV, HO3⟩
         case measure => simp [RowKit.intOf]; omega
      ·obtain rfl : j = k := by omega
       have HE := Lib.hid (HKE.out x HX.out)
       go_wp2_with (first | (at_builtin; refine app_int rfl _ _ rfl rfl HOi.out x _ _ rfl htl ?_; intro v' w3 H3; have HO3 := Lib.hid H3; clear H3))
       go_roundw
       case rel => exact ⟨j + 1, by omega, by go_num, by rw [HN.out, <- HE.out]; exact HO3.out, HD2⟩
       case measure => simp [RowKit.intOf]; omega
    ·have hcn := Ns.clo_none hO
     have HE := Lib.hid (Ns.ends_none hlt hO)
     rw [hcn] at C
     clear hcn hO h64 hol hnl hle
     generalize Tk.tk ts k = u at *
     generalize Ns.ni (Ns.opn ts (k + 1)) = ol at *
     generalize (Ns.ends ts).take k = el at *
     go_wp2_with (first | (go_at_call 86; ((with_reducible refine (CO.out).mono ?_); rintro e w1 ⟨A1, c1, rfl, hc1, B1, b1⟩; have HO1 := Lib.hid (HO.out.next b1); have r0 := (b1.cell (p := ⟨bb, off + k * 3, none⟩) hbb).trans p0; have r1 := (b1.cell (p := ⟨bb, off + k * 3 + 1, none⟩) hbb).trans p1; have r2 := (b1.cell (p := ⟨bb, off + k * 3 + 2, none⟩) hbb).trans p2; clear b1 B1)) | (go_at_call 87; ((with_reducible refine (C.out _).mono ?_); rintro e w2 ⟨rfl, b2⟩; have HO2 := Lib.hid (HO1.out.next b2); clear b2)) | (at_builtin; refine app_int rfl _ _ rfl rfl HO2.out (-1) _ _ rfl htl ?_; intro v' w3 H3; have HO3 := Lib.hid H3; clear H3))
     go_roundw
     case rel => exact ⟨k + 1, by omega, by go_num, by rw [HN.out, HE.out]; exact HO3.out, HD2⟩
     case measure => simp [RowKit.intOf]; omega
  ·obtain rfl : k = ts.length := by omega
   have HT : Hid ((Ns.ends ts).take ts.length = Ns.ends ts) := Lib.hid (List.take_of_length_le (by rw [HEL.out]; exact Nat.le_refl _))
   go_wp2_with fail
   go_ret2
   exact ⟨fun _ => ⟨_, rfl, by have := HO.out.own; rw [HT.out] at this; exact this, HO.out.bel⟩, fun ⟨j, h1, h2⟩ => by have := HD.out j h1; omega⟩
theorem rskip_any (es : List Int) (hF : Ns.Fit es) (A : Option Addr) (cap : Nat) (a : Int) (ha : -1152921504606846976 <= a /\ a <= 1152921504606846976) (w : World) (h : Bs w w.heap.size .i64 A es) :
 Calls Try.prog 88 #[.slice A es.length cap, .int .i64 a] w fun e w' => e = .returned (.int .i64 (Ns.skp es a)) /\ w = w' := by
 have hm := hF.1
 by_cases h0 : 0 <= a
 ·have d0 : decide (0 <= a) = true := decide_eq_true h0
  by_cases h1 : a < es.length
  ·have d1 : decide (a < (es.length : Int)) = true := decide_eq_true h1
   obtain ⟨b, off, rfl, hb, hp⟩ := h (by omega)
   have p0 := hp a.toNat (by omega)
   have hr := hF.2 a.toNat (by omega)
   clear hp h
   by_cases h2 : a <= Ru.g es a.toNat
   ·have d2 : decide (a <= Ru.g es a.toNat) = true := decide_eq_true h2
    have HV := Lib.hid (Ns.skp_yes h0 h1 h2)
    clear hF
    generalize Ru.g es a.toNat = x at *
    go_enter Try.func88, Try.ntmps88
    go_wp2_with fail
    go_ret
    exact ⟨by rw [HV.out]; rfl, rfl⟩
   ·have d2 : decide (a <= Ru.g es a.toNat) = false := decide_eq_false h2
    have HV := Lib.hid (Ns.skp_no (es := es) (a := a) (fun h => h2 h.2.2))
    clear hF
    generalize Ru.g es a.toNat = x at *
    go_enter Try.func88, Try.ntmps88
    go_wp2_with fail
    go_ret
    exact ⟨by rw [HV.out]; rfl, rfl⟩
  ·have d1 : decide (a < (es.length : Int)) = false := decide_eq_false h1
   have HV := Lib.hid (Ns.skp_no (es := es) (a := a) (fun h => h1 h.2.1))
   clear h hF
   go_enter Try.func88, Try.ntmps88
   go_wp2_with fail
   go_ret
   exact ⟨by rw [HV.out]; rfl, rfl⟩
 ·have d0 : decide (0 <= a) = false := decide_eq_false h0
  have HV := Lib.hid (Ns.skp_no (es := es) (a := a) (fun h => h0 h.1))
  clear h hF
  go_enter Try.func88, Try.ntmps88
  go_wp2_with fail
  go_ret
  exact ⟨by rw [HV.out]; rfl, rfl⟩
def PlcAt (es : List Int) (from_ tz : Nat) (w : World) (v7 v8 : Value) (wr : World) : Prop :=
 ∃ (a : Nat) (pre : List Nat), v8 = .int .i64 a /\ a <= es.length /\ pre.length <= a /\ Hid (Ns.plc es tz from_ = pre ++ Ns.plc es tz a) /\ Ow 3 1 w v7 (Ns.ni pre).length (nums .i64 (Ns.ni pre)) wr
theorem rplaces_any (es : List Int) (hF : Ns.Fit es) (A : Option Addr) (cap : Nat) (from_ tz : Nat) (hft : from_ <= tz) (hto : tz <= es.length) (w : World) (h : Bs w w.heap.size .i64 A es) :
 Calls Try.prog 69 #[.slice A es.length cap, .int .i64 from_, .int .i64 tz] w (Told .i64 (Ns.ni (Ns.plc es tz from_)) w) := by
 have hm := hF.1
 have HS : Hid (∀ (a : Nat) (W : World), a <= 65536 -> Below w.heap.size w W -> Calls Try.prog 88 #[.slice A es.length cap, .int .i64 a] W fun e w' => e = .returned (.int .i64 ((Ns.sk es a : Nat) : Int)) /\ W = w') :=
  Lib.hid fun a W h2 hb => by rw [Ns.sk_eq]; exact rskip_any es hF A cap a (by omega) W (h.next hb)
 clear h hF
 go_enter Try.func69, Try.ntmps69
 go_wp2_with fail
 go_loopw [7, 8] (fun v7 v8 wr => PlcAt es from_ tz w v7 v8 wr) (fun _ v8 _ => tz - (RowKit.intOf v8).toNat)
 case atStart => exact ⟨from_, [], rfl, by omega, Nat.zero_le _, Lib.hid rfl, Ow.start _ _ (Below.refl _ _)⟩
 case round =>
  obtain ⟨a, pre, rfl, hal, hpl, HP, hown⟩ := hrel
  have HO := Lib.hid hown
  have hnl := Ns.ni_len pre
  have hl : (Ns.ni pre).length <= 1000000 := by omega
  clear hown hnl
  by_cases hlt : a < tz
  ·have CS := Lib.hid (fun W => HS.out a W (by omega))
   have hg := Ns.sk_gt es a
   have hk : Ns.sk es a <= es.length := Ns.sk_le (by omega)
   have HP2 : Hid (Ns.plc es tz from_ = (pre ++ [a]) ++ Ns.plc es tz (Ns.sk es a)) := Lib.hid (by rw [HP.out, Ns.plc_on hlt]; simp)
   have HN : Hid (Ns.ni (pre ++ [a]) = Ns.ni pre ++ [(a : Int)]) := Lib.hid (Ns.ni_app _ _)
   generalize Ns.sk es a = b at *
   generalize Ns.ni pre = nl at *
   go_wp2_with (first | (at_builtin; refine app_int rfl _ _ rfl rfl HO.out (a : Int) _ _ rfl hl ?_; intro v' w3 H3; have HO3 := Lib.hid H3; clear H3) | (go_at_call 88; ((with_reducible refine (CS.out _ HO3.out.bel).mono ?_); rintro e w4 ⟨rfl, rfl⟩)))
   go_roundw
   case rel => exact ⟨b, pre ++ [a], rfl, hk, by simp; omega, HP2, by rw [HN.out]; exact HO3.out⟩
   case measure => simp [RowKit.intOf]; omega
  ·have HE : Hid (Ns.plc es tz from_ = pre) := Lib.hid (by rw [HP.out, Ns.plc_end hlt, List.append_nil])
   go_wp2_with fail
   go_ret
   obtain ⟨A9, c9, hv, hc9, hB⟩ := own_form HO.out.own
   subst hv
   rw [HE.out]
   exact ⟨A9, c9, rfl, hc9, hB, HO.out.bel⟩
end Go.Proofs.Ytaofkaehhikfaaa
