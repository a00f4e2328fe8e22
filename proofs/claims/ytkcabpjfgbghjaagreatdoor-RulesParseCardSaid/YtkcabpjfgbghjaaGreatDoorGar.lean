/-
  The walks of sameDecl, and of slices.EqualFunc over declarations.
-/
import Derived.Test.YtkcabpjfgbghjaaGreatDoorGaq
import Derived.Test.YtkcabpjfgbghjaaGreatDoorGaj
import Derived.Test.YtkcabpjfgbghjaaGreatDoorGam
import Derived.Test.YtkcabpjfgbghjaaGreatDoorGai
import Derived.Test.YtkcabpjfgbghjaaGreatDoorGad
import Derived.Test.YtkcabpjfgbghjaaGreatDoorGac
import Derived.Test.YtkcabpjfgbghjaaGreatDoorGag
set_option maxHeartbeats 16000000
set_option maxRecDepth 100000
namespace Go.Proofs.YtkcabpjfgbghjaaGreatDoor
open Go.RowKit
instance : DecidableEq Rl.Decl := inferInstanceAs (DecidableEq (ByteArray × List Tk.Tok × Bool))
instance : DecidableEq (List Rl.Decl) := inferInstance
instance : DecidableEq Rl.Margin := inferInstanceAs (DecidableEq (ByteArray × List Rl.Decl))
instance : DecidableEq (List Rl.Margin) := inferInstance
instance : DecidableEq Rl.Rule := inferInstanceAs (DecidableEq (Int × List Tk.Tok × List Rl.Decl × List Rl.Margin))
instance : DecidableEq (List Rl.Rule) := inferInstance
theorem dec_at {t : Bool} {W : World} {A : Option Addr} {us : List Rl.Decl} (h : Rl.Cells 3 (Rl.DecQ t) W A us) (h0 : 0 < us.length) : ∃ b off, A = some ⟨b, off, none⟩ /\ b < W.heap.size /\ ∀ j (hj : j < us.length), ∃ (A1 : Option Addr) (c1 : Nat), us[j].2.1.length <= c1 /\ Ts W W.heap.size A1 us[j].2.1 /\ W.cell? ⟨b, off + j * 3, none⟩ = some (.string us[j].1) /\ W.cell? ⟨b, off + j * 3 + 1, none⟩ = some (.slice A1 us[j].2.1.length c1) /\ W.cell? ⟨b, off + j * 3 + 2, none⟩ = some (.bool us[j].2.2) := by
 obtain ⟨b, off, hA, hb, hc⟩ := h h0
 refine ⟨b, off, hA, hb, fun j hj => ?_⟩
 obtain ⟨cs, _, hr, h3⟩ := hc j hj
 obtain ⟨x0, x1, x2, e, g0, g1, g2⟩ := hr
 injection g0 with g0
 obtain ⟨A1, c1, e1, l1, r1, _⟩ := g1
 injection e1 with e1
 injection g2 with g2
 subst e g0 e1 g2
 exact ⟨A1, c1, l1, Rl.ts_cells r1, h3 0 _ rfl, h3 1 _ rfl, h3 2 _ rfl⟩
theorem same_dec (x y : Rl.Decl) (A1 : Option Addr) (c1 : Nat) (B1 : Option Addr) (d1 : Nat) (hm : x.2.1.length <= 65536) (w : World) (hA : Ts w w.heap.size A1 x.2.1) (hB : Ts w w.heap.size B1 y.2.1) :
 Calls Tryz.prog 67 #[.agg #[.string x.1, .slice A1 x.2.1.length c1, .bool x.2.2], .agg #[.string y.1, .slice B1 y.2.1.length d1, .bool y.2.2]] w (Bo (decide (x = y)) w) := by
 obtain ⟨W0, hW⟩ : ∃ W0, W0 = (w.alloc (.cells #[.string x.1, .slice A1 x.2.1.length c1, .bool x.2.2] 42)).alloc (.cells #[.string y.1, .slice B1 y.2.1.length d1, .bool y.2.2] 42) := ⟨_, rfl⟩
 obtain ⟨hb0, k0, k1, hs1⟩ := two_new w (.cells #[.string x.1, .slice A1 x.2.1.length c1, .bool x.2.2] 42) (.cells #[.string y.1, .slice B1 y.2.1.length d1, .bool y.2.2] 42)
 rw [<- hW] at hb0 k0 k1 hs1
 obtain ⟨⟨p0, p1, p2⟩, _⟩ := dec_cells k0
 obtain ⟨⟨q0, q1, q2⟩, _⟩ := dec_cells k1
 have hs0 : w.heap.size < W0.heap.size := by omega
 have HB0 := Lib.hid hb0
 have HW := Lib.hid hW.symm
 have CT : Hid (Calls Tryz.prog 65 #[.slice A1 x.2.1.length c1, .slice B1 y.2.1.length d1] W0 (Bo (decide (x.2.1 = y.2.1)) W0)) := Lib.hid (tequal_any _ _ A1 B1 c1 d1 W0 hm (hA.next hb0) (hB.next hb0))
 have HV : Hid (decide (x = y) = (decide (x.1 = y.1) && (decide (x.2.1 = y.2.1) && decide (x.2.2 = y.2.2)))) := Lib.hid (by
  obtain ⟨x1, x2, x3⟩ := x
  obtain ⟨y1, y2, y3⟩ := y
  rw [Bool.eq_iff_iff]
  simp only [Bool.and_eq_true, decide_eq_true_eq, Prod.mk.injEq])
 clear hb0 k0 k1 hW hA hB
 generalize decide (x = y) = res at *
 by_cases e1 : x.1 = y.1
 ·have g1 : (x.1.toList == y.1.toList) = true := by rw [e1]; simp
  rw [decide_eq_true e1] at HV
  cases hdt : decide (x.2.1 = y.2.1)
  ·rw [hdt] at CT HV
   clear e1 hdt
   obtain ⟨x1, x2, x3⟩ := x
   obtain ⟨y1, y2, y3⟩ := y
   simp only at *
   go_enter Tryz.func67, Tryz.ntmps67
   go_upto_region 1 with fail
   rw [HW.out]
   clear HW
   go_wp2_with (go_at_call 65; ((with_reducible refine (CT.out).mono ?_); rintro e w1 ⟨rfl, b1⟩; have HB1 := Lib.hid (below_next HB0.out b1); have r2 := (b1.cell (p := ⟨w.heap.size, 2, none⟩) hs0).trans p2; have s2 := (b1.cell (p := ⟨w.heap.size + 1, 2, none⟩) hs1).trans q2; clear b1))
   go_ret
   exact ⟨by rw [HV.out]; rfl, HB1.out⟩
  ·rw [hdt] at CT HV
   clear e1 hdt
   obtain ⟨x1, x2, x3⟩ := x
   obtain ⟨y1, y2, y3⟩ := y
   simp only at *
   cases x3 <;> cases y3
   ·go_enter Tryz.func67, Tryz.ntmps67
    go_upto_region 1 with fail
    rw [HW.out]
    clear HW
    go_wp2_with (go_at_call 65; ((with_reducible refine (CT.out).mono ?_); rintro e w1 ⟨rfl, b1⟩; have HB1 := Lib.hid (below_next HB0.out b1); have r2 := (b1.cell (p := ⟨w.heap.size, 2, none⟩) hs0).trans p2; have s2 := (b1.cell (p := ⟨w.heap.size + 1, 2, none⟩) hs1).trans q2; clear b1))
    go_ret
    exact ⟨by rw [HV.out]; rfl, HB1.out⟩
   ·go_enter Tryz.func67, Tryz.ntmps67
    go_upto_region 1 with fail
    rw [HW.out]
    clear HW
    go_wp2_with (go_at_call 65; ((with_reducible refine (CT.out).mono ?_); rintro e w1 ⟨rfl, b1⟩; have HB1 := Lib.hid (below_next HB0.out b1); have r2 := (b1.cell (p := ⟨w.heap.size, 2, none⟩) hs0).trans p2; have s2 := (b1.cell (p := ⟨w.heap.size + 1, 2, none⟩) hs1).trans q2; clear b1))
    go_ret
    exact ⟨by rw [HV.out]; rfl, HB1.out⟩
   ·go_enter Tryz.func67, Tryz.ntmps67
    go_upto_region 1 with fail
    rw [HW.out]
    clear HW
    go_wp2_with (go_at_call 65; ((with_reducible refine (CT.out).mono ?_); rintro e w1 ⟨rfl, b1⟩; have HB1 := Lib.hid (below_next HB0.out b1); have r2 := (b1.cell (p := ⟨w.heap.size, 2, none⟩) hs0).trans p2; have s2 := (b1.cell (p := ⟨w.heap.size + 1, 2, none⟩) hs1).trans q2; clear b1))
    go_ret
    exact ⟨by rw [HV.out]; rfl, HB1.out⟩
   ·go_enter Tryz.func67, Tryz.ntmps67
    go_upto_region 1 with fail
    rw [HW.out]
    clear HW
    go_wp2_with (go_at_call 65; ((with_reducible refine (CT.out).mono ?_); rintro e w1 ⟨rfl, b1⟩; have HB1 := Lib.hid (below_next HB0.out b1); have r2 := (b1.cell (p := ⟨w.heap.size, 2, none⟩) hs0).trans p2; have s2 := (b1.cell (p := ⟨w.heap.size + 1, 2, none⟩) hs1).trans q2; clear b1))
    go_ret
    exact ⟨by rw [HV.out]; rfl, HB1.out⟩
 ·have g1 : (x.1.toList == y.1.toList) = false := by rw [str_same]; exact decide_eq_false e1
  rw [decide_eq_false e1] at HV
  clear e1 CT
  obtain ⟨x1, x2, x3⟩ := x
  obtain ⟨y1, y2, y3⟩ := y
  simp only at *
  go_enter Tryz.func67, Tryz.ntmps67
  go_upto_region 1 with fail
  rw [HW.out]
  clear HW
  go_wp2_with fail
  go_ret
  exact ⟨by rw [HV.out]; rfl, HB0.out⟩
theorem eqf_dec (t t2 : Bool) (us vs : List Rl.Decl) (A C : Option Addr) (ca cb : Nat) (w : World) (hm : us.length <= 65536) (hA : Rl.Cells 3 (Rl.DecQ t) w A us) (hC : Rl.Cells 3 (Rl.DecQ t2) w C vs)
 (hS : ∀ (x y : Rl.Decl) (A1 : Option Addr) (c1 : Nat) (B1 : Option Addr) (d1 : Nat) W, x ∈ us -> Below w.heap.size w W -> Ts W W.heap.size A1 x.2.1 -> Ts W W.heap.size B1 y.2.1 -> Calls Tryz.prog 67 #[.agg #[.string x.1, .slice A1 x.2.1.length c1, .bool x.2.2], .agg #[.string y.1, .slice B1 y.2.1.length d1, .bool y.2.2]] W (Bo (decide (x = y)) W)) :
 Calls Tryz.prog 66 #[.slice A us.length ca, .slice C vs.length cb, .func (Fn.func 67) #[] #[]] w (Bo (decide (us = vs)) w) := by
 have HA := Lib.hid hA
 have HC := Lib.hid hC
 have HSm := Lib.hid hS
 clear hA hC hS
 by_cases hl : us.length = vs.length
 ·have HLv : Hid (vs.length = us.length) := Lib.hid hl.symm
  have HD : Hid (∀ k (h1 : k < us.length) (h2 : k < vs.length), us[k] ≠ vs[k] -> decide (us = vs) = false) := Lib.hid fun k h1 h2 hne => decide_eq_false (ext_ne h1 h2 hne)
  have HE : Hid (us.take us.length = vs.take us.length -> decide (us = vs) = true) := Lib.hid fun h => decide_eq_true (ext_all hl h)
  generalize decide (us = vs) = res at *
  clear hl
  rw [HLv.out]
  go_enter Tryz.func66, Tryz.ntmps66
  go_wp2_with fail
  go_loopw [17] (fun v17 wr => ∃ k : Nat, k <= us.length /\ v17 = .int .i64 k /\ Hid (us.take k = vs.take k) /\ Hid (Below w.heap.size w wr)) (fun v17 _ => us.length - (RowKit.intOf v17).toNat)
  case atStart => exact ⟨0, Nat.zero_le _, rfl, Lib.hid rfl, Lib.hid (Below.refl _ _)⟩
  case round =>
   obtain ⟨k, hk, rfl, HK, HB⟩ := hrel
   by_cases hlt : k < us.length
   ·have hlv : k < vs.length := by rw [HLv.out]; exact hlt
    have hki : (k : Int) < (us.length : Int) := by omega
    obtain ⟨b, off, rfl, hb, hp⟩ := dec_at HA.out (by omega)
    obtain ⟨b2, off2, rfl, hb2, hp2⟩ := dec_at HC.out (by rw [HLv.out]; omega)
    obtain ⟨A1, c1, l1, r1, P0, P1, P2⟩ := hp k hlt
    obtain ⟨B1, d1, m1, s1, Q0, Q1, Q2⟩ := hp2 k hlv
    have p0 := (HB.out.cell (p := ⟨b, off + k * 3, none⟩) hb).trans P0
    have p1 := (HB.out.cell (p := ⟨b, off + k * 3 + 1, none⟩) hb).trans P1
    have p2 := (HB.out.cell (p := ⟨b, off + k * 3 + 2, none⟩) hb).trans P2
    have q0 := (HB.out.cell (p := ⟨b2, off2 + k * 3, none⟩) hb2).trans Q0
    have q1 := (HB.out.cell (p := ⟨b2, off2 + k * 3 + 1, none⟩) hb2).trans Q1
    have q2 := (HB.out.cell (p := ⟨b2, off2 + k * 3 + 2, none⟩) hb2).trans Q2
    have HN := Lib.hid (take_ext hlt hlv HK.out)
    have HX := Lib.hid (HD.out k hlt hlv)
    have HR := Lib.hid (And.intro (r1) (s1))
    have HMm := Lib.hid (List.getElem_mem (l := us) hlt)
    clear hp hp2 HD HE HK P0 Q0 P1 Q1 P2 Q2 r1 s1
    generalize us[k] = x at *
    generalize vs[k] = y at *
    clear hlv
    go_upto_region 6 with fail
    have k3 := heap_alloc_new wr (.cells #[.string x.1, .slice A1 x.2.1.length c1, .bool x.2.2] 42)
    have b3 := (Below.refl wr.heap.size wr).alloc (Nat.le_refl _) (.cells #[.string x.1, .slice A1 x.2.1.length c1, .bool x.2.2] 42)
    generalize wr.alloc (.cells #[.string x.1, .slice A1 x.2.1.length c1, .bool x.2.2] 42) = w3 at k3 b3 ⊢
    have HB3 := Lib.hid (below_next HB.out b3)
    have HK3 := Lib.hid k3
    have hs3 : wr.heap.size < w3.heap.size := (Array.getElem?_eq_some_iff.1 k3).1
    replace q0 := (b3.cell (p := ⟨b2, off2 + k * 3, none⟩) (Nat.lt_of_lt_of_le hb2 HB.out.size)).trans q0
    replace q1 := (b3.cell (p := ⟨b2, off2 + k * 3 + 1, none⟩) (Nat.lt_of_lt_of_le hb2 HB.out.size)).trans q1
    replace q2 := (b3.cell (p := ⟨b2, off2 + k * 3 + 2, none⟩) (Nat.lt_of_lt_of_le hb2 HB.out.size)).trans q2
    clear k3 b3
    go_upto_region 7 with fail
    have k4 := heap_alloc_new w3 (.cells #[.string y.1, .slice B1 y.2.1.length d1, .bool y.2.2] 42)
    have b4 := (Below.refl w3.heap.size w3).alloc (Nat.le_refl _) (.cells #[.string y.1, .slice B1 y.2.1.length d1, .bool y.2.2] 42)
    generalize w3.alloc (.cells #[.string y.1, .slice B1 y.2.1.length d1, .bool y.2.2] 42) = w4 at k4 b4 ⊢
    have HB4 := Lib.hid (below_next HB3.out b4)
    obtain ⟨⟨z0, z1, z2⟩, _⟩ := (dec_cells k4)
    obtain ⟨⟨y0, y1, y2⟩, _⟩ := (dec_cells (below_block b4 HK3.out))
    have CS : Hid (Calls Tryz.prog 67 #[.agg #[.string x.1, .slice A1 x.2.1.length c1, .bool x.2.2], .agg #[.string y.1, .slice B1 y.2.1.length d1, .bool y.2.2]] w4 (Bo (decide (x = y)) w4)) := Lib.hid (HSm.out x y A1 c1 B1 d1 w4 HMm.out HB4.out (HR.out.1.next HB4.out) (HR.out.2.next HB4.out))
    clear k4 b4 HR HSm
    by_cases e : x = y
    ·have HN2 := Lib.hid (HN.out e)
     rw [decide_eq_true e] at CS
     clear HN HX e
     go_wp2_with (go_at_call 67; ((with_reducible refine (CS.out).mono ?_); rintro e w5 ⟨rfl, b5⟩; have HB5 := Lib.hid (below_next HB4.out b5); clear b5))
     go_roundw
     case rel => exact ⟨k + 1, by omega, by go_num, HN2, HB5⟩
     case measure => simp [RowKit.intOf]; omega
    ·have HV := Lib.hid (HX.out e)
     rw [decide_eq_false e] at CS
     clear HN HX e
     go_wp2_with (go_at_call 67; ((with_reducible refine (CS.out).mono ?_); rintro e w5 ⟨rfl, b5⟩; have HB5 := Lib.hid (below_next HB4.out b5); clear b5))
     go_ret
     exact ⟨by rw [HV.out]; rfl, HB5.out⟩
   ·obtain rfl : us.length = k := by omega
    have HV := Lib.hid (HE.out HK.out)
    clear HD HE HK
    go_wp2_with fail
    go_ret
    exact ⟨by rw [HV.out]; rfl, HB.out⟩
 ·have HV : Hid (decide (us = vs) = false) := Lib.hid (decide_eq_false (fun c => hl (by rw [c])))
  have g : ((us.length : Int) == (vs.length : Int)) = false := beq_false_of_ne (by omega)
  have g2 : (us.length == vs.length) = false := beq_false_of_ne hl
  generalize decide (us = vs) = res at *
  clear hl
  go_enter Tryz.func66, Tryz.ntmps66
  go_wp2_with fail
  go_ret
  exact ⟨by rw [HV.out]; rfl, Below.refl _ _⟩
theorem mar_at {t : Bool} {W : World} {A : Option Addr} {us : List Rl.Margin} (h : Rl.Cells 2 (Rl.MarQ t) W A us) (h0 : 0 < us.length) : ∃ b off, A = some ⟨b, off, none⟩ /\ b < W.heap.size /\ ∀ j (hj : j < us.length), ∃ (A1 : Option Addr) (c1 : Nat), us[j].2.length <= c1 /\ Rl.Cells 3 (Rl.DecQ t) W A1 us[j].2 /\ W.cell? ⟨b, off + j * 2, none⟩ = some (.string us[j].1) /\ W.cell? ⟨b, off + j * 2 + 1, none⟩ = some (.slice A1 us[j].2.length c1) := by
 obtain ⟨b, off, hA, hb, hc⟩ := h h0
 refine ⟨b, off, hA, hb, fun j hj => ?_⟩
 obtain ⟨cs, _, hr, h3⟩ := hc j hj
 obtain ⟨x0, x1, e, g0, g1⟩ := hr
 injection g0 with g0
 obtain ⟨A1, c1, e1, l1, r1, _⟩ := g1
 injection e1 with e1
 subst e g0 e1
 exact ⟨A1, c1, l1, r1, h3 0 _ rfl, h3 1 _ rfl⟩
theorem eqd_any (t t2 : Bool) (us vs : List Rl.Decl) (A C : Option Addr) (ca cb : Nat) (w : World) (hm : us.length <= 65536) (h : ∀ d ∈ us, d.2.1.length <= 65536) (hA : Rl.Cells 3 (Rl.DecQ t) w A us) (hC : Rl.Cells 3 (Rl.DecQ t2) w C vs) :
 Calls Tryz.prog 66 #[.slice A us.length ca, .slice C vs.length cb, .func (Fn.func 67) #[] #[]] w (Bo (decide (us = vs)) w) := eqf_dec t t2 us vs A C ca cb w hm hA hC (fun x y A1 c1 B1 d1 W hx _ h1 h2 => same_dec x y A1 c1 B1 d1 (h x hx) W h1 h2)
theorem same_mar (t t2 : Bool) (x y : Rl.Margin) (A1 : Option Addr) (c1 : Nat) (B1 : Option Addr) (d1 : Nat) (hm : x.2.length <= 65536) (h : ∀ d ∈ x.2, d.2.1.length <= 65536) (w : World) (hA : Rl.Cells 3 (Rl.DecQ t) w A1 x.2) (hB : Rl.Cells 3 (Rl.DecQ t2) w B1 y.2) :
 Calls Tryz.prog 69 #[.agg #[.string x.1, .slice A1 x.2.length c1], .agg #[.string y.1, .slice B1 y.2.length d1]] w (Bo (decide (x = y)) w) := by
 obtain ⟨W0, hW⟩ : ∃ W0, W0 = (w.alloc (.cells #[.string x.1, .slice A1 x.2.length c1] 49)).alloc (.cells #[.string y.1, .slice B1 y.2.length d1] 49) := ⟨_, rfl⟩
 obtain ⟨hb0, k0, k1, hs1⟩ := two_new w (.cells #[.string x.1, .slice A1 x.2.length c1] 49) (.cells #[.string y.1, .slice B1 y.2.length d1] 49)
 rw [<- hW] at hb0 k0 k1 hs1
 obtain ⟨⟨p0, p1⟩, _⟩ := mar_cells k0
 obtain ⟨⟨q0, q1⟩, _⟩ := mar_cells k1
 have hs0 : w.heap.size < W0.heap.size := by omega
 have HB0 := Lib.hid hb0
 have HW := Lib.hid hW.symm
 have CT : Hid (Calls Tryz.prog 66 #[.slice A1 x.2.length c1, .slice B1 y.2.length d1, .func (Fn.func 67) #[] #[]] W0 (Bo (decide (x.2 = y.2)) W0)) := Lib.hid (eqd_any t t2 _ _ A1 B1 c1 d1 W0 hm h (Rl.cells_next (Rl.keeps_dec _) hA hb0) (Rl.cells_next (Rl.keeps_dec _) hB hb0))
 have HV : Hid (decide (x = y) = (decide (x.1 = y.1) && decide (x.2 = y.2))) := Lib.hid (by
  obtain ⟨x1, x2⟩ := x
  obtain ⟨y1, y2⟩ := y
  rw [Bool.eq_iff_iff]
  simp only [Bool.and_eq_true, decide_eq_true_eq, Prod.mk.injEq])
 clear hb0 k0 k1 hW hA hB h
 generalize decide (x = y) = res at *
 by_cases e1 : x.1 = y.1
 ·have g1 : (x.1.toList == y.1.toList) = true := by rw [e1]; simp
  rw [decide_eq_true e1] at HV
  generalize decide (x.2 = y.2) = dt at *
  clear e1
  obtain ⟨x1, x2⟩ := x
  obtain ⟨y1, y2⟩ := y
  simp only at *
  go_enter Tryz.func69, Tryz.ntmps69
  go_upto_region 1 with fail
  rw [HW.out]
  clear HW
  go_wp2_with (go_at_call 66; ((with_reducible refine (CT.out).mono ?_); rintro e w1 ⟨rfl, b1⟩; have HB1 := Lib.hid (below_next HB0.out b1); clear b1))
  go_ret
  exact ⟨by rw [HV.out]; rfl, HB1.out⟩
 ·have g1 : (x.1.toList == y.1.toList) = false := by rw [str_same]; exact decide_eq_false e1
  rw [decide_eq_false e1] at HV
  clear e1 CT
  obtain ⟨x1, x2⟩ := x
  obtain ⟨y1, y2⟩ := y
  simp only at *
  go_enter Tryz.func69, Tryz.ntmps69
  go_upto_region 1 with fail
  rw [HW.out]
  clear HW
  go_wp2_with fail
  go_ret
  exact ⟨by rw [HV.out]; rfl, HB0.out⟩
theorem eqf_mar (t t2 : Bool) (us vs : List Rl.Margin) (A C : Option Addr) (ca cb : Nat) (w : World) (hm : us.length <= 65536) (hA : Rl.Cells 2 (Rl.MarQ t) w A us) (hC : Rl.Cells 2 (Rl.MarQ t2) w C vs)
 (hS : ∀ (x y : Rl.Margin) (A1 : Option Addr) (c1 : Nat) (B1 : Option Addr) (d1 : Nat) W, x ∈ us -> Below w.heap.size w W -> Rl.Cells 3 (Rl.DecQ t) W A1 x.2 -> Rl.Cells 3 (Rl.DecQ t2) W B1 y.2 -> Calls Tryz.prog 69 #[.agg #[.string x.1, .slice A1 x.2.length c1], .agg #[.string y.1, .slice B1 y.2.length d1]] W (Bo (decide (x = y)) W)) :
 Calls Tryz.prog 68 #[.slice A us.length ca, .slice C vs.length cb, .func (Fn.func 69) #[] #[]] w (Bo (decide (us = vs)) w) := by
 have HA := Lib.hid hA
 have HC := Lib.hid hC
 have HSm := Lib.hid hS
 clear hA hC hS
 by_cases hl : us.length = vs.length
 ·have HLv : Hid (vs.length = us.length) := Lib.hid hl.symm
  have HD : Hid (∀ k (h1 : k < us.length) (h2 : k < vs.length), us[k] ≠ vs[k] -> decide (us = vs) = false) := Lib.hid fun k h1 h2 hne => decide_eq_false (ext_ne h1 h2 hne)
  have HE : Hid (us.take us.length = vs.take us.length -> decide (us = vs) = true) := Lib.hid fun h => decide_eq_true (ext_all hl h)
  generalize decide (us = vs) = res at *
  clear hl
  rw [HLv.out]
  go_enter Tryz.func68, Tryz.ntmps68
  go_wp2_with fail
  go_loopw [17] (fun v17 wr => ∃ k : Nat, k <= us.length /\ v17 = .int .i64 k /\ Hid (us.take k = vs.take k) /\ Hid (Below w.heap.size w wr)) (fun v17 _ => us.length - (RowKit.intOf v17).toNat)
  case atStart => exact ⟨0, Nat.zero_le _, rfl, Lib.hid rfl, Lib.hid (Below.refl _ _)⟩
  case round =>
   obtain ⟨k, hk, rfl, HK, HB⟩ := hrel
   by_cases hlt : k < us.length
   ·have hlv : k < vs.length := by rw [HLv.out]; exact hlt
    have hki : (k : Int) < (us.length : Int) := by omega
    obtain ⟨b, off, rfl, hb, hp⟩ := mar_at HA.out (by omega)
    obtain ⟨b2, off2, rfl, hb2, hp2⟩ := mar_at HC.out (by rw [HLv.out]; omega)
    obtain ⟨A1, c1, l1, r1, P0, P1⟩ := hp k hlt
    obtain ⟨B1, d1, m1, s1, Q0, Q1⟩ := hp2 k hlv
    have p0 := (HB.out.cell (p := ⟨b, off + k * 2, none⟩) hb).trans P0
    have p1 := (HB.out.cell (p := ⟨b, off + k * 2 + 1, none⟩) hb).trans P1
    have q0 := (HB.out.cell (p := ⟨b2, off2 + k * 2, none⟩) hb2).trans Q0
    have q1 := (HB.out.cell (p := ⟨b2, off2 + k * 2 + 1, none⟩) hb2).trans Q1
    have HN := Lib.hid (take_ext hlt hlv HK.out)
    have HX := Lib.hid (HD.out k hlt hlv)
    have HR := Lib.hid (And.intro (r1) (s1))
    have HMm := Lib.hid (List.getElem_mem (l := us) hlt)
    clear hp hp2 HD HE HK P0 Q0 P1 Q1 r1 s1
    generalize us[k] = x at *
    generalize vs[k] = y at *
    clear hlv
    go_upto_region 6 with fail
    have k3 := heap_alloc_new wr (.cells #[.string x.1, .slice A1 x.2.length c1] 49)
    have b3 := (Below.refl wr.heap.size wr).alloc (Nat.le_refl _) (.cells #[.string x.1, .slice A1 x.2.length c1] 49)
    generalize wr.alloc (.cells #[.string x.1, .slice A1 x.2.length c1] 49) = w3 at k3 b3 ⊢
    have HB3 := Lib.hid (below_next HB.out b3)
    have HK3 := Lib.hid k3
    have hs3 : wr.heap.size < w3.heap.size := (Array.getElem?_eq_some_iff.1 k3).1
    replace q0 := (b3.cell (p := ⟨b2, off2 + k * 2, none⟩) (Nat.lt_of_lt_of_le hb2 HB.out.size)).trans q0
    replace q1 := (b3.cell (p := ⟨b2, off2 + k * 2 + 1, none⟩) (Nat.lt_of_lt_of_le hb2 HB.out.size)).trans q1
    clear k3 b3
    go_upto_region 7 with fail
    have k4 := heap_alloc_new w3 (.cells #[.string y.1, .slice B1 y.2.length d1] 49)
    have b4 := (Below.refl w3.heap.size w3).alloc (Nat.le_refl _) (.cells #[.string y.1, .slice B1 y.2.length d1] 49)
    generalize w3.alloc (.cells #[.string y.1, .slice B1 y.2.length d1] 49) = w4 at k4 b4 ⊢
    have HB4 := Lib.hid (below_next HB3.out b4)
    obtain ⟨⟨z0, z1⟩, _⟩ := (mar_cells k4)
    obtain ⟨⟨y0, y1⟩, _⟩ := (mar_cells (below_block b4 HK3.out))
    have CS : Hid (Calls Tryz.prog 69 #[.agg #[.string x.1, .slice A1 x.2.length c1], .agg #[.string y.1, .slice B1 y.2.length d1]] w4 (Bo (decide (x = y)) w4)) := Lib.hid (HSm.out x y A1 c1 B1 d1 w4 HMm.out HB4.out (Rl.cells_next (Rl.keeps_dec _) HR.out.1 HB4.out) (Rl.cells_next (Rl.keeps_dec _) HR.out.2 HB4.out))
    clear k4 b4 HR HSm
    by_cases e : x = y
    ·have HN2 := Lib.hid (HN.out e)
     rw [decide_eq_true e] at CS
     clear HN HX e
     go_wp2_with (go_at_call 69; ((with_reducible refine (CS.out).mono ?_); rintro e w5 ⟨rfl, b5⟩; have HB5 := Lib.hid (below_next HB4.out b5); clear b5))
     go_roundw
     case rel => exact ⟨k + 1, by omega, by go_num, HN2, HB5⟩
     case measure => simp [RowKit.intOf]; omega
    ·have HV := Lib.hid (HX.out e)
     rw [decide_eq_false e] at CS
     clear HN HX e
     go_wp2_with (go_at_call 69; ((with_reducible refine (CS.out).mono ?_); rintro e w5 ⟨rfl, b5⟩; have HB5 := Lib.hid (below_next HB4.out b5); clear b5))
     go_ret
     exact ⟨by rw [HV.out]; rfl, HB5.out⟩
   ·obtain rfl : us.length = k := by omega
    have HV := Lib.hid (HE.out HK.out)
    clear HD HE HK
    go_wp2_with fail
    go_ret
    exact ⟨by rw [HV.out]; rfl, HB.out⟩
 ·have HV : Hid (decide (us = vs) = false) := Lib.hid (decide_eq_false (fun c => hl (by rw [c])))
  have g : ((us.length : Int) == (vs.length : Int)) = false := beq_false_of_ne (by omega)
  have g2 : (us.length == vs.length) = false := beq_false_of_ne hl
  generalize decide (us = vs) = res at *
  clear hl
  go_enter Tryz.func68, Tryz.ntmps68
  go_wp2_with fail
  go_ret
  exact ⟨by rw [HV.out]; rfl, Below.refl _ _⟩
theorem rul_at {t : Bool} {W : World} {A : Option Addr} {us : List Rl.Rule} (h : Rl.Cells 4 (Rl.RulQ t) W A us) (h0 : 0 < us.length) : ∃ b off, A = some ⟨b, off, none⟩ /\ b < W.heap.size /\ ∀ j (hj : j < us.length), ∃ (A1 : Option Addr) (c1 : Nat) (A2 : Option Addr) (c2 : Nat) (A3 : Option Addr) (c3 : Nat), us[j].2.1.length <= c1 /\ Ts W W.heap.size A1 us[j].2.1 /\ us[j].2.2.1.length <= c2 /\ Rl.Cells 3 (Rl.DecQ t) W A2 us[j].2.2.1 /\ us[j].2.2.2.length <= c3 /\ Rl.Cells 2 (Rl.MarQ t) W A3 us[j].2.2.2 /\ W.cell? ⟨b, off + j * 4, none⟩ = some (.int .i64 us[j].1) /\ W.cell? ⟨b, off + j * 4 + 1, none⟩ = some (.slice A1 us[j].2.1.length c1) /\ W.cell? ⟨b, off + j * 4 + 2, none⟩ = some (.slice A2 us[j].2.2.1.length c2) /\ W.cell? ⟨b, off + j * 4 + 3, none⟩ = some (.slice A3 us[j].2.2.2.length c3) := by
 obtain ⟨b, off, hA, hb, hc⟩ := h h0
 refine ⟨b, off, hA, hb, fun j hj => ?_⟩
 obtain ⟨cs, _, hr, h3⟩ := hc j hj
 obtain ⟨x0, x1, x2, x3, e, g0, g1, g2, g3⟩ := hr
 injection g0 with g0
 obtain ⟨A1, c1, e1, l1, r1, _⟩ := g1
 injection e1 with e1
 obtain ⟨A2, c2, e2, l2, r2, _⟩ := g2
 injection e2 with e2
 obtain ⟨A3, c3, e3, l3, r3, _⟩ := g3
 injection e3 with e3
 subst e g0 e1 e2 e3
 exact ⟨A1, c1, A2, c2, A3, c3, l1, Rl.ts_cells r1, l2, r2, l3, r3, h3 0 _ rfl, h3 1 _ rfl, h3 2 _ rfl, h3 3 _ rfl⟩
def RuOk (x : Rl.Rule) : Prop := x.2.1.length <= 65536 /\ x.2.2.1.length <= 65536 /\ (∀ d ∈ x.2.2.1, d.2.1.length <= 65536) /\ x.2.2.2.length <= 65536 /\ ∀ m ∈ x.2.2.2, m.2.length <= 65536 /\ ∀ d ∈ m.2, d.2.1.length <= 65536
theorem eqm_any (t t2 : Bool) (us vs : List Rl.Margin) (A C : Option Addr) (ca cb : Nat) (w : World) (hm : us.length <= 65536) (h : ∀ m ∈ us, m.2.length <= 65536 /\ ∀ d ∈ m.2, d.2.1.length <= 65536) (hA : Rl.Cells 2 (Rl.MarQ t) w A us) (hC : Rl.Cells 2 (Rl.MarQ t2) w C vs) :
 Calls Tryz.prog 68 #[.slice A us.length ca, .slice C vs.length cb, .func (Fn.func 69) #[] #[]] w (Bo (decide (us = vs)) w) := eqf_mar t t2 us vs A C ca cb w hm hA hC (fun x y A1 c1 B1 d1 W hx _ h1 h2 => same_mar t t2 x y A1 c1 B1 d1 (h x hx).1 (h x hx).2 W h1 h2)
theorem same_rul (t t2 : Bool) (x y : Rl.Rule) (A1 : Option Addr) (c1 : Nat) (A2 : Option Addr) (c2 : Nat) (A3 : Option Addr) (c3 : Nat) (B1 : Option Addr) (d1 : Nat) (B2 : Option Addr) (d2 : Nat) (B3 : Option Addr) (d3 : Nat) (h : RuOk x) (w : World)
 (hA1 : Ts w w.heap.size A1 x.2.1) (hA2 : Rl.Cells 3 (Rl.DecQ t) w A2 x.2.2.1) (hA3 : Rl.Cells 2 (Rl.MarQ t) w A3 x.2.2.2) (hB1 : Ts w w.heap.size B1 y.2.1) (hB2 : Rl.Cells 3 (Rl.DecQ t2) w B2 y.2.2.1) (hB3 : Rl.Cells 2 (Rl.MarQ t2) w B3 y.2.2.2) :
 Calls Tryz.prog 38 #[.agg #[.int .i64 x.1, .slice A1 x.2.1.length c1, .slice A2 x.2.2.1.length c2, .slice A3 x.2.2.2.length c3], .agg #[.int .i64 y.1, .slice B1 y.2.1.length d1, .slice B2 y.2.2.1.length d2, .slice B3 y.2.2.2.length d3]] w (Bo (decide (x = y)) w) := by
 obtain ⟨W0, hW⟩ : ∃ W0, W0 = (w.alloc (.cells #[.int .i64 x.1, .slice A1 x.2.1.length c1, .slice A2 x.2.2.1.length c2, .slice A3 x.2.2.2.length c3] 47)).alloc (.cells #[.int .i64 y.1, .slice B1 y.2.1.length d1, .slice B2 y.2.2.1.length d2, .slice B3 y.2.2.2.length d3] 47) := ⟨_, rfl⟩
 obtain ⟨hb0, k0, k1, hs1⟩ := two_new w (.cells #[.int .i64 x.1, .slice A1 x.2.1.length c1, .slice A2 x.2.2.1.length c2, .slice A3 x.2.2.2.length c3] 47) (.cells #[.int .i64 y.1, .slice B1 y.2.1.length d1, .slice B2 y.2.2.1.length d2, .slice B3 y.2.2.2.length d3] 47)
 rw [<- hW] at hb0 k0 k1 hs1
 obtain ⟨⟨p0, p1, p2, p3⟩, _⟩ := Rl.four_cells k0
 obtain ⟨⟨q0, q1, q2, q3⟩, _⟩ := Rl.four_cells k1
 have hs0 : w.heap.size < W0.heap.size := by omega
 have HB0 := Lib.hid hb0
 have HW := Lib.hid hW.symm
 have C1 : Hid (Calls Tryz.prog 65 #[.slice A1 x.2.1.length c1, .slice B1 y.2.1.length d1] W0 (Bo (decide (x.2.1 = y.2.1)) W0)) := Lib.hid (tequal_any _ _ A1 B1 c1 d1 W0 h.1 (hA1.next hb0) (hB1.next hb0))
 have C2 : Hid (∀ W, Below W0.heap.size W0 W -> Calls Tryz.prog 66 #[.slice A2 x.2.2.1.length c2, .slice B2 y.2.2.1.length d2, .func (Fn.func 67) #[] #[]] W (Bo (decide (x.2.2.1 = y.2.2.1)) W)) := Lib.hid fun W hb => eqd_any t t2 _ _ A2 B2 c2 d2 W h.2.1 h.2.2.1 (Rl.cells_next (Rl.keeps_dec _) hA2 (below_next hb0 hb)) (Rl.cells_next (Rl.keeps_dec _) hB2 (below_next hb0 hb))
 have C3 : Hid (∀ W, Below W0.heap.size W0 W -> Calls Tryz.prog 68 #[.slice A3 x.2.2.2.length c3, .slice B3 y.2.2.2.length d3, .func (Fn.func 69) #[] #[]] W (Bo (decide (x.2.2.2 = y.2.2.2)) W)) := Lib.hid fun W hb => eqm_any t t2 _ _ A3 B3 c3 d3 W h.2.2.2.1 h.2.2.2.2 (Rl.cells_next (Rl.keeps_mar _) hA3 (below_next hb0 hb)) (Rl.cells_next (Rl.keeps_mar _) hB3 (below_next hb0 hb))
 have HV : Hid (decide (x = y) = (decide (x.1 = y.1) && (decide (x.2.1 = y.2.1) && (decide (x.2.2.1 = y.2.2.1) && decide (x.2.2.2 = y.2.2.2))))) := Lib.hid (by
  obtain ⟨x1, x2, x3, x4⟩ := x
  obtain ⟨y1, y2, y3, y4⟩ := y
  rw [Bool.eq_iff_iff]
  simp only [Bool.and_eq_true, decide_eq_true_eq, Prod.mk.injEq])
 clear hb0 k0 k1 hW hA1 hA2 hA3 hB1 hB2 hB3 h
 generalize decide (x = y) = res at *
 by_cases e1 : x.1 = y.1
 ·have g1 : (x.1 == y.1) = true := by rw [e1]; simp
  rw [decide_eq_true e1] at HV
  generalize decide (x.2.1 = y.2.1) = t1 at *
  generalize decide (x.2.2.1 = y.2.2.1) = t2 at *
  generalize decide (x.2.2.2 = y.2.2.2) = t3 at *
  clear e1
  obtain ⟨x1, x2, x3, x4⟩ := x
  obtain ⟨y1, y2, y3, y4⟩ := y
  simp only at *
  cases t1
  ·clear C2 C3
   go_enter Tryz.func38, Tryz.ntmps38
   go_upto_region 1 with fail
   rw [HW.out]
   clear HW
   go_wp2_with (go_at_call 65; ((with_reducible refine (C1.out).mono ?_); rintro e w1 ⟨rfl, b1⟩; have HB1 := Lib.hid b1; have r2 := (b1.cell (p := ⟨w.heap.size, 2, none⟩) hs0).trans p2; have s2 := (b1.cell (p := ⟨w.heap.size + 1, 2, none⟩) hs1).trans q2; have r3 := (b1.cell (p := ⟨w.heap.size, 3, none⟩) hs0).trans p3; have s3 := (b1.cell (p := ⟨w.heap.size + 1, 3, none⟩) hs1).trans q3; clear b1))
   go_ret
   exact ⟨by rw [HV.out]; rfl, below_next HB0.out HB1.out⟩
  ·cases t2
   ·clear C3
    go_enter Tryz.func38, Tryz.ntmps38
    go_upto_region 1 with fail
    rw [HW.out]
    clear HW
    go_wp2_with (first | (go_at_call 65; ((with_reducible refine (C1.out).mono ?_); rintro e w1 ⟨rfl, b1⟩; have HB1 := Lib.hid b1; have r2 := (b1.cell (p := ⟨w.heap.size, 2, none⟩) hs0).trans p2; have s2 := (b1.cell (p := ⟨w.heap.size + 1, 2, none⟩) hs1).trans q2; have r3 := (b1.cell (p := ⟨w.heap.size, 3, none⟩) hs0).trans p3; have s3 := (b1.cell (p := ⟨w.heap.size + 1, 3, none⟩) hs1).trans q3; clear b1)) | (go_at_call 66; ((with_reducible refine (C2.out _ HB1.out).mono ?_); rintro e w2 ⟨rfl, b2⟩; have HB2 := Lib.hid (below_next HB1.out b2); have u3 := (HB2.out.cell (p := ⟨w.heap.size, 3, none⟩) hs0).trans p3; have v3 := (HB2.out.cell (p := ⟨w.heap.size + 1, 3, none⟩) hs1).trans q3; clear b2)))
    go_ret
    exact ⟨by rw [HV.out]; rfl, below_next HB0.out HB2.out⟩
   ·go_enter Tryz.func38, Tryz.ntmps38
    go_upto_region 1 with fail
    rw [HW.out]
    clear HW
    go_wp2_with (first | (go_at_call 65; ((with_reducible refine (C1.out).mono ?_); rintro e w1 ⟨rfl, b1⟩; have HB1 := Lib.hid b1; have r2 := (b1.cell (p := ⟨w.heap.size, 2, none⟩) hs0).trans p2; have s2 := (b1.cell (p := ⟨w.heap.size + 1, 2, none⟩) hs1).trans q2; have r3 := (b1.cell (p := ⟨w.heap.size, 3, none⟩) hs0).trans p3; have s3 := (b1.cell (p := ⟨w.heap.size + 1, 3, none⟩) hs1).trans q3; clear b1)) | (go_at_call 66; ((with_reducible refine (C2.out _ HB1.out).mono ?_); rintro e w2 ⟨rfl, b2⟩; have HB2 := Lib.hid (below_next HB1.out b2); have u3 := (HB2.out.cell (p := ⟨w.heap.size, 3, none⟩) hs0).trans p3; have v3 := (HB2.out.cell (p := ⟨w.heap.size + 1, 3, none⟩) hs1).trans q3; clear b2)) | (go_at_call 68; ((with_reducible refine (C3.out _ HB2.out).mono ?_); rintro e w3 ⟨rfl, b3⟩; have HB3 := Lib.hid (below_next HB2.out b3); clear b3)))
    go_ret
    exact ⟨by rw [HV.out]; rfl, below_next HB0.out HB3.out⟩
 ·have g1 : (x.1 == y.1) = false := beq_false_of_ne e1
  rw [decide_eq_false e1] at HV
  clear e1 C1 C2 C3
  obtain ⟨x1, x2, x3, x4⟩ := x
  obtain ⟨y1, y2, y3, y4⟩ := y
  simp only at *
  go_enter Tryz.func38, Tryz.ntmps38
  go_upto_region 1 with fail
  rw [HW.out]
  clear HW
  go_wp2_with fail
  go_ret
  exact ⟨by rw [HV.out]; rfl, HB0.out⟩
theorem eqf_rul (t t2 : Bool) (us vs : List Rl.Rule) (A C : Option Addr) (ca cb : Nat) (w : World) (hm : us.length <= 65536) (hA : Rl.Cells 4 (Rl.RulQ t) w A us) (hC : Rl.Cells 4 (Rl.RulQ t2) w C vs)
 (hS : ∀ (x y : Rl.Rule) (A1 : Option Addr) (c1 : Nat) (A2 : Option Addr) (c2 : Nat) (A3 : Option Addr) (c3 : Nat) (B1 : Option Addr) (d1 : Nat) (B2 : Option Addr) (d2 : Nat) (B3 : Option Addr) (d3 : Nat) W, x ∈ us -> Below w.heap.size w W -> Ts W W.heap.size A1 x.2.1 -> Rl.Cells 3 (Rl.DecQ t) W A2 x.2.2.1 -> Rl.Cells 2 (Rl.MarQ t) W A3 x.2.2.2 -> Ts W W.heap.size B1 y.2.1 -> Rl.Cells 3 (Rl.DecQ t2) W B2 y.2.2.1 -> Rl.Cells 2 (Rl.MarQ t2) W B3 y.2.2.2 -> Calls Tryz.prog 38 #[.agg #[.int .i64 x.1, .slice A1 x.2.1.length c1, .slice A2 x.2.2.1.length c2, .slice A3 x.2.2.2.length c3], .agg #[.int .i64 y.1, .slice B1 y.2.1.length d1, .slice B2 y.2.2.1.length d2, .slice B3 y.2.2.2.length d3]] W (Bo (decide (x = y)) W)) :
 Calls Tryz.prog 37 #[.slice A us.length ca, .slice C vs.length cb, .func (Fn.func 38) #[] #[]] w (Bo (decide (us = vs)) w) := by
 have HA := Lib.hid hA
 have HC := Lib.hid hC
 have HSm := Lib.hid hS
 clear hA hC hS
 by_cases hl : us.length = vs.length
 ·have HLv : Hid (vs.length = us.length) := Lib.hid hl.symm
  have HD : Hid (∀ k (h1 : k < us.length) (h2 : k < vs.length), us[k] ≠ vs[k] -> decide (us = vs) = false) := Lib.hid fun k h1 h2 hne => decide_eq_false (ext_ne h1 h2 hne)
  have HE : Hid (us.take us.length = vs.take us.length -> decide (us = vs) = true) := Lib.hid fun h => decide_eq_true (ext_all hl h)
  generalize decide (us = vs) = res at *
  clear hl
  rw [HLv.out]
  go_enter Tryz.func37, Tryz.ntmps37
  go_wp2_with fail
  go_loopw [17] (fun v17 wr => ∃ k : Nat, k <= us.length /\ v17 = .int .i64 k /\ Hid (us.take k = vs.take k) /\ Hid (Below w.heap.size w wr)) (fun v17 _ => us.length - (RowKit.intOf v17).toNat)
  case atStart => exact ⟨0, Nat.zero_le _, rfl, Lib.hid rfl, Lib.hid (Below.refl _ _)⟩
  case round =>
   obtain ⟨k, hk, rfl, HK, HB⟩ := hrel
   by_cases hlt : k < us.length
   ·have hlv : k < vs.length := by rw [HLv.out]; exact hlt
    have hki : (k : Int) < (us.length : Int) := by omega
    obtain ⟨b, off, rfl, hb, hp⟩ := rul_at HA.out (by omega)
    obtain ⟨b2, off2, rfl, hb2, hp2⟩ := rul_at HC.out (by rw [HLv.out]; omega)
    obtain ⟨A1, c1, A2, c2, A3, c3, l1, r1, l2, r2, l3, r3, P0, P1, P2, P3⟩ := hp k hlt
    obtain ⟨B1, d1, B2, d2, B3, d3, m1, s1, m2, s2, m3, s3, Q0, Q1, Q2, Q3⟩ := hp2 k hlv
    have p0 := (HB.out.cell (p := ⟨b, off + k * 4, none⟩) hb).trans P0
    have p1 := (HB.out.cell (p := ⟨b, off + k * 4 + 1, none⟩) hb).trans P1
    have p2 := (HB.out.cell (p := ⟨b, off + k * 4 + 2, none⟩) hb).trans P2
    have p3 := (HB.out.cell (p := ⟨b, off + k * 4 + 3, none⟩) hb).trans P3
    have q0 := (HB.out.cell (p := ⟨b2, off2 + k * 4, none⟩) hb2).trans Q0
    have q1 := (HB.out.cell (p := ⟨b2, off2 + k * 4 + 1, none⟩) hb2).trans Q1
    have q2 := (HB.out.cell (p := ⟨b2, off2 + k * 4 + 2, none⟩) hb2).trans Q2
    have q3 := (HB.out.cell (p := ⟨b2, off2 + k * 4 + 3, none⟩) hb2).trans Q3
    have HN := Lib.hid (take_ext hlt hlv HK.out)
    have HX := Lib.hid (HD.out k hlt hlv)
    have HR := Lib.hid (And.intro (And.intro r1 (And.intro r2 r3)) (And.intro s1 (And.intro s2 s3)))
    have HMm := Lib.hid (List.getElem_mem (l := us) hlt)
    clear hp hp2 HD HE HK P0 Q0 P1 Q1 P2 Q2 P3 Q3 r1 s1 r2 s2 r3 s3
    generalize us[k] = x at *
    generalize vs[k] = y at *
    clear hlv
    go_upto_region 6 with fail
    have k3 := heap_alloc_new wr (.cells #[.int .i64 x.1, .slice A1 x.2.1.length c1, .slice A2 x.2.2.1.length c2, .slice A3 x.2.2.2.length c3] 47)
    have b3 := (Below.refl wr.heap.size wr).alloc (Nat.le_refl _) (.cells #[.int .i64 x.1, .slice A1 x.2.1.length c1, .slice A2 x.2.2.1.length c2, .slice A3 x.2.2.2.length c3] 47)
    generalize wr.alloc (.cells #[.int .i64 x.1, .slice A1 x.2.1.length c1, .slice A2 x.2.2.1.length c2, .slice A3 x.2.2.2.length c3] 47) = w3 at k3 b3 ⊢
    have HB3 := Lib.hid (below_next HB.out b3)
    have HK3 := Lib.hid k3
    have hs3 : wr.heap.size < w3.heap.size := (Array.getElem?_eq_some_iff.1 k3).1
    replace q0 := (b3.cell (p := ⟨b2, off2 + k * 4, none⟩) (Nat.lt_of_lt_of_le hb2 HB.out.size)).trans q0
    replace q1 := (b3.cell (p := ⟨b2, off2 + k * 4 + 1, none⟩) (Nat.lt_of_lt_of_le hb2 HB.out.size)).trans q1
    replace q2 := (b3.cell (p := ⟨b2, off2 + k * 4 + 2, none⟩) (Nat.lt_of_lt_of_le hb2 HB.out.size)).trans q2
    replace q3 := (b3.cell (p := ⟨b2, off2 + k * 4 + 3, none⟩) (Nat.lt_of_lt_of_le hb2 HB.out.size)).trans q3
    clear k3 b3
    go_upto_region 7 with fail
    have k4 := heap_alloc_new w3 (.cells #[.int .i64 y.1, .slice B1 y.2.1.length d1, .slice B2 y.2.2.1.length d2, .slice B3 y.2.2.2.length d3] 47)
    have b4 := (Below.refl w3.heap.size w3).alloc (Nat.le_refl _) (.cells #[.int .i64 y.1, .slice B1 y.2.1.length d1, .slice B2 y.2.2.1.length d2, .slice B3 y.2.2.2.length d3] 47)
    generalize w3.alloc (.cells #[.int .i64 y.1, .slice B1 y.2.1.length d1, .slice B2 y.2.2.1.length d2, .slice B3 y.2.2.2.length d3] 47) = w4 at k4 b4 ⊢
    have HB4 := Lib.hid (below_next HB3.out b4)
    obtain ⟨⟨z0, z1, z2, z3⟩, _⟩ := (Rl.four_cells k4)
    obtain ⟨⟨y0, y1, y2, y3⟩, _⟩ := (Rl.four_cells (below_block b4 HK3.out))
    have CS : Hid (Calls Tryz.prog 38 #[.agg #[.int .i64 x.1, .slice A1 x.2.1.length c1, .slice A2 x.2.2.1.length c2, .slice A3 x.2.2.2.length c3], .agg #[.int .i64 y.1, .slice B1 y.2.1.length d1, .slice B2 y.2.2.1.length d2, .slice B3 y.2.2.2.length d3]] w4 (Bo (decide (x = y)) w4)) := Lib.hid (HSm.out x y A1 c1 A2 c2 A3 c3 B1 d1 B2 d2 B3 d3 w4 HMm.out HB4.out (HR.out.1.1.next HB4.out) (Rl.cells_next (Rl.keeps_dec _) HR.out.1.2.1 HB4.out) (Rl.cells_next (Rl.keeps_mar _) HR.out.1.2.2 HB4.out) (HR.out.2.1.next HB4.out) (Rl.cells_next (Rl.keeps_dec _) HR.out.2.2.1 HB4.out) (Rl.cells_next (Rl.keeps_mar _) HR.out.2.2.2 HB4.out))
    clear k4 b4 HR HSm
    by_cases e : x = y
    ·have HN2 := Lib.hid (HN.out e)
     rw [decide_eq_true e] at CS
     clear HN HX e
     go_wp2_with (go_at_call 38; ((with_reducible refine (CS.out).mono ?_); rintro e w5 ⟨rfl, b5⟩; have HB5 := Lib.hid (below_next HB4.out b5); clear b5))
     go_roundw
     case rel => exact ⟨k + 1, by omega, by go_num, HN2, HB5⟩
     case measure => simp [RowKit.intOf]; omega
    ·have HV := Lib.hid (HX.out e)
     rw [decide_eq_false e] at CS
     clear HN HX e
     go_wp2_with (go_at_call 38; ((with_reducible refine (CS.out).mono ?_); rintro e w5 ⟨rfl, b5⟩; have HB5 := Lib.hid (below_next HB4.out b5); clear b5))
     go_ret
     exact ⟨by rw [HV.out]; rfl, HB5.out⟩
   ·obtain rfl : us.length = k := by omega
    have HV := Lib.hid (HE.out HK.out)
    clear HD HE HK
    go_wp2_with fail
    go_ret
    exact ⟨by rw [HV.out]; rfl, HB.out⟩
 ·have HV : Hid (decide (us = vs) = false) := Lib.hid (decide_eq_false (fun c => hl (by rw [c])))
  have g : ((us.length : Int) == (vs.length : Int)) = false := beq_false_of_ne (by omega)
  have g2 : (us.length == vs.length) = false := beq_false_of_ne hl
  generalize decide (us = vs) = res at *
  clear hl
  go_enter Tryz.func37, Tryz.ntmps37
  go_wp2_with fail
  go_ret
  exact ⟨by rw [HV.out]; rfl, Below.refl _ _⟩
theorem same_rules (t t2 : Bool) (us vs : List Rl.Rule) (A C : Option Addr) (ca cb : Nat) (w : World) (hm : us.length <= 65536) (h : ∀ r ∈ us, RuOk r) (hA : Rl.Cells 4 (Rl.RulQ t) w A us) (hC : Rl.Cells 4 (Rl.RulQ t2) w C vs) :
 Calls Tryz.prog 13 #[.slice A us.length ca, .slice C vs.length cb] w (Bo (decide (us = vs)) w) := by
 have CR : Hid (Calls Tryz.prog 37 #[.slice A us.length ca, .slice C vs.length cb, .func (Fn.func 38) #[] #[]] w (Bo (decide (us = vs)) w)) := Lib.hid (eqf_rul t t2 us vs A C ca cb w hm hA hC (fun x y A1 c1 A2 c2 A3 c3 B1 d1 B2 d2 B3 d3 W hx _ h1 h2 h3 h4 h5 h6 => same_rul t t2 x y A1 c1 A2 c2 A3 c3 B1 d1 B2 d2 B3 d3 (h x hx) W h1 h2 h3 h4 h5 h6))
 generalize decide (us = vs) = res at *
 clear hA hC h
 go_enter Tryz.func13, Tryz.ntmps13
 go_wp2_with (go_at_call 37; ((with_reducible refine (CR.out).mono ?_); rintro e w1 ⟨rfl, b1⟩; have HB1 := Lib.hid b1; clear b1))
 go_ret
 exact ⟨rfl, HB1.out⟩
namespace Rl
open Tk Ns
def RtL (us : List Tok) : Prop := ∃ ps : List Pr.PT, us = ps.map Pr.toTok /\ Pr.Right ps
def Jnt (A B : List Tok) : Prop := ∀ x, A.getLast? = some x -> (x.1 = 1 -> ∀ y, B.head? = some y -> y.1 ≠ 1) /\ x.1 ≠ 7 /\ ¬ (x.1 = 11 /\ x.2.1 = ⟨#[92]⟩)
def NmOk (n : ByteArray) : Prop := ∃ l, Pr.Ok l /\ l ≠ [] /\ n = str l
theorem right_app : ∀ {ps qs : List Pr.PT}, Pr.Right ps -> Pr.Right qs -> (∀ t, ps.getLast? = some t -> Pr.Stn t (Pr.nextK qs)) -> Pr.Right (ps ++ qs)
 | [], _, _, h, _ => h
 | [t], qs, h1, h2, h => ⟨h1.1, h t rfl, h2⟩
 | t :: u :: ps, qs, h1, h2, h => by
   refine ⟨h1.1, h1.2.1, ?_⟩
   exact right_app (ps := u :: ps) h1.2.2 h2 (fun x hx => h x (by rw [List.getLast?_cons_cons]; exact hx))
theorem rtl_app {A B : List Tok} (hA : RtL A) (hB : RtL B) (h : Jnt A B) : RtL (A ++ B) := by
 obtain ⟨ps, rfl, h1⟩ := hA
 obtain ⟨qs, rfl, h2⟩ := hB
 refine ⟨ps ++ qs, by rw [List.map_append], right_app h1 h2 fun t ht => ?_⟩
 have hx := h (Pr.toTok t) (by rw [List.getLast?_map, ht]; rfl)
 obtain ⟨a, b, c⟩ := hx
 refine ⟨fun e hn => ?_, fun e => absurd e b, fun e1 e2 => absurd ⟨e1, ?_⟩ c⟩
 ·cases qs with
  | nil => cases hn
  | cons q qs =>
    have hq : q.1 = 1 := by unfold Pr.nextK at hn; simpa using hn
    exact a e (Pr.toTok q) rfl hq
 ·show str t.2.1 = ⟨#[92]⟩
  rw [e2]; rfl
theorem rtl_one {t : Pr.PT} (h : Pr.One t) (h7 : t.1 ≠ 7) : RtL [Pr.toTok t] :=
 ⟨[t], rfl, h, ⟨fun _ c => by (cases c), fun c => absurd c h7, fun _ _ => .inr rfl⟩, trivial⟩
theorem rtl_name {k : Int} {n : ByteArray} (hk : k = 2 ∨ k = 3 ∨ k = 4 ∨ k = 5) (h : NmOk n) : RtL [(k, n, 0)] := by
 obtain ⟨l, h1, h2, rfl⟩ := h
 exact rtl_one (t := (k, l, 0)) ⟨h1, .inr (.inl ⟨hk, h2, rfl⟩)⟩ (by show k ≠ 7; omega)
theorem jnt_one {t : Tok} {B : List Tok} (h1 : t.1 ≠ 1) (h7 : t.1 ≠ 7) (h11 : ¬ (t.1 = 11 /\ t.2.1 = ⟨#[92]⟩)) : Jnt [t] B := fun x hx => by
 obtain rfl : t = x := by simpa using hx
 exact ⟨fun c => absurd c h1, h7, h11⟩
theorem rtl_cons {t : Tok} {B : List Tok} (ht : RtL [t]) (h1 : t.1 ≠ 1) (h7 : t.1 ≠ 7) (h11 : ¬ (t.1 = 11 /\ t.2.1 = ⟨#[92]⟩)) (hB : RtL B) : RtL (t :: B) := rtl_app (A := [t]) ht hB (jnt_one h1 h7 h11)
theorem rtl_col : RtL [colT] := rtl_one (t := (14, [], 0)) ⟨fun c hc => by (cases hc), by simp [Pr.Kd]⟩ (by decide)
theorem ok_small {l : List Int} (h : ∀ c ∈ l, 0 < c /\ c < 128) : Pr.Ok l := fun c hc => by
 have := h c hc
 exact ⟨by unfold Ru.Is; omega, by omega⟩
def Txt (r : Rule) : Prop := (∀ d ∈ r.2.2.1, NmOk d.1) /\ ∀ m ∈ r.2.2.2, NmOk m.1 /\ ∀ d ∈ m.2, NmOk d.1
end Rl
end Go.Proofs.YtkcabpjfgbghjaaGreatDoor
namespace Go.Proofs.YtkcabpjfgbghjaaGreatDoor
namespace Pr
open Ru Tk
theorem tk_cons_succ (u : Tok) (us : List Tok) (j : Nat) : tk (u :: us) (j + 1) = tk us j := by
 unfold tk; simp
theorem tk_cons_zero (u : Tok) (us : List Tok) : tk (u :: us) 0 = u := by
 unfold tk; simp
theorem nxK_cons (u : Tok) (us : List Tok) (j : Nat) : nxK (u :: us) (j + 1) = nxK us j := by
 unfold nxK
 rw [tk_cons_succ]
 by_cases h : j < us.length
 ·rw [if_pos h, if_pos (by simp; exact h)]
 ·rw [if_neg h, if_neg (by simp; omega)]
theorem nxK_zero (ps : List PT) : nxK (ps.map toTok) 0 = nextK ps := by
 cases ps with
 | nil => rfl
 | cons p r => unfold nxK nextK; rw [if_pos (by simp)]; rfl
theorem okAt_cons (u : Tok) (us : List Tok) (j : Nat) : OkAt (u :: us) (j + 1) ↔ OkAt us j := by
 unfold OkAt
 rw [tk_cons_succ, nxK_cons]
theorem stn_iff {k n : Int} {cs : List Int} (h : ∀ c ∈ cs, Is c) (nx : Option Int) : stnB k (str cs) nx = true ↔ Stn (k, cs, n) nx := by
 have e : str cs = ⟨#[92]⟩ ↔ cs = [92] := by
  constructor
  ·intro he
   have h1 : wr cs = wr [92] := by rw [<- str_bs, he]; rfl
   exact wr_inj h (fun c hc => by rw [List.mem_singleton] at hc; subst hc; unfold Is; omega) h1
  ·rintro rfl; rfl
 unfold stnB Stn
 simp only [e]
 by_cases h1 : k = 1
 ·subst h1
  rw [if_pos rfl, decide_eq_true_iff]
  constructor
  ·intro h2; exact ⟨fun _ => h2, fun h3 => by omega, fun h3 => by omega⟩
  ·rintro ⟨h2, _⟩; exact h2 rfl
 ·rw [if_neg h1]
  by_cases h7 : k = 7
  ·subst h7
   rw [if_pos rfl, decide_eq_true_iff]
   constructor
   ·intro h2; exact ⟨fun h3 => by omega, fun _ => h2, fun h3 => by omega⟩
   ·rintro ⟨_, h2, _⟩; exact h2 rfl
  ·rw [if_neg h7]
   by_cases h11 : k = 11 /\ cs = [92]
   ·rw [if_pos h11, decide_eq_true_iff]
    constructor
    ·intro h2; exact ⟨fun h3 => absurd h3 h1, fun h3 => absurd h3 h7, fun _ _ => h2⟩
    ·rintro ⟨_, _, h2⟩; exact h2 h11.1 h11.2
   ·rw [if_neg h11]
    constructor
    ·intro _; exact ⟨fun h3 => absurd h3 h1, fun h3 => absurd h3 h7, fun h3 h4 => absurd ⟨h3, h4⟩ h11⟩
    ·intro _; rfl
theorem okAll_iff : ∀ (us : List Tok), (∀ j, j < us.length -> OkAt us j) ↔ ∃ ps : List PT, us = ps.map toTok /\ Right ps
 | [] => ⟨fun _ => ⟨[], rfl, trivial⟩, fun _ j hj => by simp at hj⟩
 | u :: us => by
   have ih := okAll_iff us
   constructor
   ·intro h
    obtain ⟨ps, rfl, hr⟩ := ih.1 (fun j hj => (okAt_cons u us j).1 (h (j + 1) (by simp; omega)))
    obtain ⟨h1, h2⟩ := h 0 (by simp)
    rw [tk_cons_zero] at h1 h2
    obtain ⟨p, rfl, hp⟩ := h1
    refine ⟨p :: ps, rfl, hp, ?_, hr⟩
    rw [nxK_cons, nxK_zero] at h2
    obtain ⟨k, cs, n⟩ := p
    exact (stn_iff (fun c hc => (hp.1 c hc).1) _).1 h2
   ·rintro ⟨ps, he, hr⟩
    cases ps with
    | nil => simp at he
    | cons p ps =>
      rw [List.map_cons, List.cons.injEq] at he
      obtain ⟨rfl, rfl⟩ := he
      obtain ⟨hp, hs, hr⟩ := hr
      have h2 := ih.2 ⟨ps, rfl, hr⟩
      intro j hj
      cases j with
      | zero =>
        refine ⟨by rw [tk_cons_zero]; exact ⟨p, rfl, hp⟩, ?_⟩
        rw [tk_cons_zero, nxK_cons, nxK_zero]
        obtain ⟨k, cs, n⟩ := p
        exact (stn_iff (fun c hc => (hp.1 c hc).1) _).2 hs
      | succ j => exact (okAt_cons _ _ j).2 (h2 j (by simp at hj ⊢; exact hj))
theorem rightU_iff (us : List Tok) : RightU us ↔ us.length <= 16384 /\ ∃ ps : List PT, us = ps.map toTok /\ Right ps := by
 unfold RightU
 rw [okAll_iff]
end Pr
end Go.Proofs.YtkcabpjfgbghjaaGreatDoor
namespace Go.Proofs.YtkcabpjfgbghjaaGreatDoor
open Go.RowKit
namespace Rl
open Tk Ns
variable {sd : List Tok -> Bool}
open Classical in
noncomputable def sdU (us : List Tok) : Bool := decide (Pr.RightU us /\ ¬ Ns.deep us /\ ∀ i, i < us.length -> okS us i)
open Classical in
theorem sdU_is : SdIs sdU := fun us => by unfold sdU; exact decide_eq_true_iff
theorem sdU_c : SdC sdU := rsound_any sdU sdU_is
end Rl
namespace Rl
open Tk Ns
def awB : List Int := [97, 123, 98, 58, 99, 33, 105, 109, 112, 111, 114, 116, 97, 110, 116, 59, 100, 125, 64, 120, 32, 121, 59, 64, 112, 97, 103, 101, 32, 58, 108, 101, 102, 116, 123, 109, 97, 114, 103, 105, 110, 58, 49, 101, 109, 59, 64, 116, 111, 112, 45, 108, 101, 102, 116, 123, 99, 111, 110, 116, 101, 110, 116, 58, 39, 120, 39, 125, 125]
def awT : List Tok := [(2, ⟨#[97]⟩, 0), (12, ⟨#[123]⟩, 0), (2, ⟨#[98]⟩, 0), (14, ⟨#[]⟩, 0), (2, ⟨#[99]⟩, 0), (11, ⟨#[33]⟩, 0), (2, ⟨#[105, 109, 112, 111, 114, 116, 97, 110, 116]⟩, 0), (15, ⟨#[]⟩, 0), (2, ⟨#[100]⟩, 0), (13, ⟨#[125]⟩, 0), (4, ⟨#[120]⟩, 0), (1, ⟨#[]⟩, 0), (2, ⟨#[121]⟩, 0), (15, ⟨#[]⟩, 0), (4, ⟨#[112, 97, 103, 101]⟩, 0), (1, ⟨#[]⟩, 0), (14, ⟨#[]⟩, 0), (2, ⟨#[108, 101, 102, 116]⟩, 0), (12, ⟨#[123]⟩, 0), (2, ⟨#[109, 97, 114, 103, 105, 110]⟩, 0), (14, ⟨#[]⟩, 0), (10, ⟨#[101, 109]⟩, 1000), (15, ⟨#[]⟩, 0), (4, ⟨#[116, 111, 112, 45, 108, 101, 102, 116]⟩, 0), (12, ⟨#[123]⟩, 0), (2, ⟨#[99, 111, 110, 116, 101, 110, 116]⟩, 0), (14, ⟨#[]⟩, 0), (6, ⟨#[120]⟩, 0), (13, ⟨#[125]⟩, 0), (13, ⟨#[125]⟩, 0)]
theorem awB_by : Ru.By awB := by intro c hc; revert c; decide
theorem awB_rd : Ru.rd awB = awB := by decide +kernel
theorem awn0 : nxt awB 0 = (2, ⟨#[97]⟩, 0, 1) := by decide +kernel
theorem awn1 : nxt awB 1 = (12, ⟨#[123]⟩, 0, 2) := by decide +kernel
theorem awn2 : nxt awB 2 = (2, ⟨#[98]⟩, 0, 3) := by decide +kernel
theorem awn3 : nxt awB 3 = (14, ⟨#[]⟩, 0, 4) := by decide +kernel
theorem awn4 : nxt awB 4 = (2, ⟨#[99]⟩, 0, 5) := by decide +kernel
theorem awn5 : nxt awB 5 = (11, ⟨#[33]⟩, 0, 6) := by decide +kernel
theorem awn6 : nxt awB 6 = (2, ⟨#[105, 109, 112, 111, 114, 116, 97, 110, 116]⟩, 0, 15) := by decide +kernel
theorem awn7 : nxt awB 15 = (15, ⟨#[]⟩, 0, 16) := by decide +kernel
theorem awn8 : nxt awB 16 = (2, ⟨#[100]⟩, 0, 17) := by decide +kernel
theorem awn9 : nxt awB 17 = (13, ⟨#[125]⟩, 0, 18) := by decide +kernel
theorem awn10 : nxt awB 18 = (4, ⟨#[120]⟩, 0, 20) := by decide +kernel
theorem aws11 : Tk.sp awB 20 false = (21, true) := by decide +kernel
theorem awn12 : nxt awB 21 = (2, ⟨#[121]⟩, 0, 22) := by decide +kernel
theorem awn13 : nxt awB 22 = (15, ⟨#[]⟩, 0, 23) := by decide +kernel
theorem awn14 : nxt awB 23 = (4, ⟨#[112, 97, 103, 101]⟩, 0, 28) := by decide +kernel
theorem aws15 : Tk.sp awB 28 false = (29, true) := by decide +kernel
theorem awn16 : nxt awB 29 = (14, ⟨#[]⟩, 0, 30) := by decide +kernel
theorem awn17 : nxt awB 30 = (2, ⟨#[108, 101, 102, 116]⟩, 0, 34) := by decide +kernel
theorem awn18 : nxt awB 34 = (12, ⟨#[123]⟩, 0, 35) := by decide +kernel
theorem awn19 : nxt awB 35 = (2, ⟨#[109, 97, 114, 103, 105, 110]⟩, 0, 41) := by decide +kernel
theorem awn20 : nxt awB 41 = (14, ⟨#[]⟩, 0, 42) := by decide +kernel
theorem awn21 : nxt awB 42 = (10, ⟨#[101, 109]⟩, 1000, 45) := by decide +kernel
theorem awn22 : nxt awB 45 = (15, ⟨#[]⟩, 0, 46) := by decide +kernel
theorem awn23 : nxt awB 46 = (4, ⟨#[116, 111, 112, 45, 108, 101, 102, 116]⟩, 0, 55) := by decide +kernel
theorem awn24 : nxt awB 55 = (12, ⟨#[123]⟩, 0, 56) := by decide +kernel
theorem awn25 : nxt awB 56 = (2, ⟨#[99, 111, 110, 116, 101, 110, 116]⟩, 0, 63) := by decide +kernel
theorem awn26 : nxt awB 63 = (14, ⟨#[]⟩, 0, 64) := by decide +kernel
theorem awn27 : nxt awB 64 = (6, ⟨#[120]⟩, 0, 67) := by decide +kernel
theorem awn28 : nxt awB 67 = (13, ⟨#[125]⟩, 0, 68) := by decide +kernel
theorem awn29 : nxt awB 68 = (13, ⟨#[125]⟩, 0, 69) := by decide +kernel
theorem aw_scan : scan (Ru.rd awB) 0 = awT := by
 rw [awB_rd]
 rw [scan_tok (k := 0) (by decide) (by decide +kernel) (by decide +kernel), awn0]
 rw [scan_tok (k := 1) (by decide) (by decide +kernel) (by decide +kernel), awn1]
 rw [scan_tok (k := 2) (by decide) (by decide +kernel) (by decide +kernel), awn2]
 rw [scan_tok (k := 3) (by decide) (by decide +kernel) (by decide +kernel), awn3]
 rw [scan_tok (k := 4) (by decide) (by decide +kernel) (by decide +kernel), awn4]
 rw [scan_tok (k := 5) (by decide) (by decide +kernel) (by decide +kernel), awn5]
 rw [scan_tok (k := 6) (by decide) (by decide +kernel) (by decide +kernel), awn6]
 rw [scan_tok (k := 15) (by decide) (by decide +kernel) (by decide +kernel), awn7]
 rw [scan_tok (k := 16) (by decide) (by decide +kernel) (by decide +kernel), awn8]
 rw [scan_tok (k := 17) (by decide) (by decide +kernel) (by decide +kernel), awn9]
 rw [scan_tok (k := 18) (by decide) (by decide +kernel) (by decide +kernel), awn10]
 rw [scan_gap (k := 20) (by decide), aws11]
 rw [scan_tok (k := 21) (by decide) (by decide +kernel) (by decide +kernel), awn12]
 rw [scan_tok (k := 22) (by decide) (by decide +kernel) (by decide +kernel), awn13]
 rw [scan_tok (k := 23) (by decide) (by decide +kernel) (by decide +kernel), awn14]
 rw [scan_gap (k := 28) (by decide), aws15]
 rw [scan_tok (k := 29) (by decide) (by decide +kernel) (by decide +kernel), awn16]
 rw [scan_tok (k := 30) (by decide) (by decide +kernel) (by decide +kernel), awn17]
 rw [scan_tok (k := 34) (by decide) (by decide +kernel) (by decide +kernel), awn18]
 rw [scan_tok (k := 35) (by decide) (by decide +kernel) (by decide +kernel), awn19]
 rw [scan_tok (k := 41) (by decide) (by decide +kernel) (by decide +kernel), awn20]
 rw [scan_tok (k := 42) (by decide) (by decide +kernel) (by decide +kernel), awn21]
 rw [scan_tok (k := 45) (by decide) (by decide +kernel) (by decide +kernel), awn22]
 rw [scan_tok (k := 46) (by decide) (by decide +kernel) (by decide +kernel), awn23]
 rw [scan_tok (k := 55) (by decide) (by decide +kernel) (by decide +kernel), awn24]
 rw [scan_tok (k := 56) (by decide) (by decide +kernel) (by decide +kernel), awn25]
 rw [scan_tok (k := 63) (by decide) (by decide +kernel) (by decide +kernel), awn26]
 rw [scan_tok (k := 64) (by decide) (by decide +kernel) (by decide +kernel), awn27]
 rw [scan_tok (k := 67) (by decide) (by decide +kernel) (by decide +kernel), awn28]
 rw [scan_tok (k := 68) (by decide) (by decide +kernel) (by decide +kernel), awn29]
 rw [scan_end (k := 69) (by decide)]
 rfl
def plcF (es : List Int) (tz : Nat) : Nat -> Nat -> List Nat
 | 0, _ => []
 | n + 1, a => if a < tz then a :: plcF es tz n (sk es a) else []
theorem plc_F {es : List Int} {tz : Nat} : ∀ (n a : Nat), tz - a <= n -> plc es tz a = plcF es tz n a
 | 0, a, h => by rw [plc_end (by omega)]; rfl
 | n + 1, a, h => by
   by_cases c : a < tz
   ·have := sk_gt es a
    rw [plc_on c, plcF, if_pos c, plc_F n (sk es a) (by omega)]
   ·rw [plc_end c, plcF, if_neg c]
theorem fo_F {p : Tok -> Bool} {ts : List Tok} {a b n : Nat} (h : b - a <= 40) (e : (if fnd (fun x => p (tk ts x)) (plcF (ends ts) b 40 a) = -1 then b else (fnd (fun x => p (tk ts x)) (plcF (ends ts) b 40 a)).toNat) = n) : fo p ts a b = n := by
 unfold fo
 rw [plc_F 40 a h]
 exact e
theorem awf0 : fo (stB false) awT 0 30 = 1 := fo_F (by decide) (by decide +kernel)
theorem awf1 : fo (stB true) awT 11 30 = 13 := fo_F (by decide) (by decide +kernel)
theorem awf2 : fo (stB true) awT 15 30 = 18 := fo_F (by decide) (by decide +kernel)
theorem awf3 : fo (seB) awT 2 9 = 7 := fo_F (by decide) (by decide +kernel)
theorem awf4 : fo (seB) awT 8 9 = 9 := fo_F (by decide) (by decide +kernel)
theorem awf5 : fo (seB) awT 19 29 = 22 := fo_F (by decide) (by decide +kernel)
theorem awf6 : fo (stB true) awT 24 29 = 24 := fo_F (by decide) (by decide +kernel)
theorem awf7 : fo (seB) awT 25 28 = 28 := fo_F (by decide) (by decide +kernel)
theorem awk0 : sk (ends awT) 1 = 10 := by decide +kernel
theorem awk1 : sk (ends awT) 13 = 14 := by decide +kernel
theorem awk2 : sk (ends awT) 18 = 30 := by decide +kernel
theorem awk3 : sk (ends awT) 24 = 29 := by decide +kernel
theorem awg0 : (Ru.g (ends awT) 1).toNat = 9 := by decide +kernel
theorem awg1 : (Ru.g (ends awT) 18).toNat = 29 := by decide +kernel
theorem awg2 : (Ru.g (ends awT) 24).toNat = 28 := by decide +kernel
structure AwS (sd : List Tok -> Bool) : Prop where
 a : sd [(2, ⟨#[97]⟩, 0)] = true
 c : sd [(2, ⟨#[99]⟩, 0)] = true
 l : sd [(14, ⟨#[]⟩, 0), (2, ⟨#[108, 101, 102, 116]⟩, 0)] = true
 m : sd [(10, ⟨#[101, 109]⟩, 1000)] = true
 x : sd [(6, ⟨#[120]⟩, 0)] = true
def awD1 : Decl := (⟨#[98]⟩, [(2, ⟨#[99]⟩, 0)], true)
def awD2 : Decl := (⟨#[109, 97, 114, 103, 105, 110]⟩, [(10, ⟨#[101, 109]⟩, 1000)], false)
def awD3 : Decl := (⟨#[99, 111, 110, 116, 101, 110, 116]⟩, [(6, ⟨#[120]⟩, 0)], false)
def awL : List Rule := [(1, [(2, ⟨#[97]⟩, 0)], [awD1], []), (2, [(14, ⟨#[]⟩, 0), (2, ⟨#[108, 101, 102, 116]⟩, 0)], [awD2], [(⟨#[116, 111, 112, 45, 108, 101, 102, 116]⟩, [awD3])])]
section
variable {sd : List Tok -> Bool} (S : AwS sd)
include S
theorem awd1 : declL sd (sub awT 2 7) = some awD1 := by
 have e : trim (sub awT 2 7) = [(2, ⟨#[98]⟩, 0), (14, ⟨#[]⟩, 0), (2, ⟨#[99]⟩, 0), (11, ⟨#[33]⟩, 0), (2, ⟨#[105, 109, 112, 111, 114, 116, 97, 110, 116]⟩, 0)] := by decide +kernel
 have e2 : lead [(14, ⟨#[]⟩, 0), (2, ⟨#[99]⟩, 0), (11, ⟨#[33]⟩, 0), (2, ⟨#[105, 109, 112, 111, 114, 116, 97, 110, 116]⟩, 0)] = [(14, ⟨#[]⟩, 0), (2, ⟨#[99]⟩, 0), (11, ⟨#[33]⟩, 0), (2, ⟨#[105, 109, 112, 111, 114, 116, 97, 110, 116]⟩, 0)] := by decide +kernel
 have e3 : value (trim [(2, ⟨#[99]⟩, 0), (11, ⟨#[33]⟩, 0), (2, ⟨#[105, 109, 112, 111, 114, 116, 97, 110, 116]⟩, 0)]) = ([(2, ⟨#[99]⟩, 0)], true) := by decide +kernel
 unfold declL
 rw [e, declN, if_pos (by decide), e2, declV, e3, if_pos ⟨by decide, S.c⟩]
 decide +kernel
theorem awd2 : declL sd (sub awT 19 22) = some awD2 := by
 have e : trim (sub awT 19 22) = [(2, ⟨#[109, 97, 114, 103, 105, 110]⟩, 0), (14, ⟨#[]⟩, 0), (10, ⟨#[101, 109]⟩, 1000)] := by decide +kernel
 have e2 : lead [(14, ⟨#[]⟩, 0), (10, ⟨#[101, 109]⟩, 1000)] = [(14, ⟨#[]⟩, 0), (10, ⟨#[101, 109]⟩, 1000)] := by decide +kernel
 have e3 : value (trim [(10, ⟨#[101, 109]⟩, 1000)]) = ([(10, ⟨#[101, 109]⟩, 1000)], false) := by decide +kernel
 unfold declL
 rw [e, declN, if_pos (by decide), e2, declV, e3, if_pos ⟨by decide, S.m⟩]
 decide +kernel
theorem awd3 : declL sd (sub awT 25 28) = some awD3 := by
 have e : trim (sub awT 25 28) = [(2, ⟨#[99, 111, 110, 116, 101, 110, 116]⟩, 0), (14, ⟨#[]⟩, 0), (6, ⟨#[120]⟩, 0)] := by decide +kernel
 have e2 : lead [(14, ⟨#[]⟩, 0), (6, ⟨#[120]⟩, 0)] = [(14, ⟨#[]⟩, 0), (6, ⟨#[120]⟩, 0)] := by decide +kernel
 have e3 : value (trim [(6, ⟨#[120]⟩, 0)]) = ([(6, ⟨#[120]⟩, 0)], false) := by decide +kernel
 unfold declL
 rw [e, declN, if_pos (by decide), e2, declV, e3, if_pos ⟨by decide, S.x⟩]
 decide +kernel
omit S in
theorem awd0 : declL sd (sub awT 8 9) = none := by
 have e : trim (sub awT 8 9) = [(2, ⟨#[100]⟩, 0)] := by decide +kernel
 unfold declL
 rw [e, declN, if_pos (by decide)]
 rfl
theorem awb1 : blk sd awT false 2 9 = ([awD1], []) := by
 rw [blk_decl sd awT (by decide) (by decide +kernel) (by decide +kernel), awf3, awd1 S]
 rw [blk_skip sd awT (a := 7) (by decide) (by decide +kernel)]
 rw [blk_decl sd awT (a := 8) (by decide) (by decide +kernel) (by decide +kernel), awf4, awd0]
 rw [blk_end sd awT (a := 9) (by decide)]
 rfl
theorem awb3 : blk sd awT false 25 28 = ([awD3], []) := by
 rw [blk_decl sd awT (by decide) (by decide +kernel) (by decide +kernel), awf7, awd3 S]
 rw [blk_end sd awT (a := 28) (by decide)]
 rfl
theorem awb2 : blk sd awT true 19 29 = ([awD2], [(⟨#[116, 111, 112, 45, 108, 101, 102, 116]⟩, [awD3])]) := by
 rw [blk_decl sd awT (by decide) (by decide +kernel) (by decide +kernel), awf5, awd2 S]
 rw [blk_skip sd awT (a := 22) (by decide) (by decide +kernel)]
 rw [blk_mar sd awT (a := 23) (by decide) (by decide +kernel) (by rw [awf6]; unfold marAt; decide +kernel), awf6, awk3, awg2, show min 28 29 = 28 from rfl, awb3 S]
 rw [blk_end sd awT (a := 29) (by decide)]
 have e : Ru.lowS (tk awT 23).2.1 = ⟨#[116, 111, 112, 45, 108, 101, 102, 116]⟩ := by decide +kernel
 rw [e]
 rfl
theorem aw_parse : parse sd awT = awL := by
 have a0 : isAt awT 0 = false := by decide +kernel
 have a1 : isAt awT 10 = true := by decide +kernel
 have a2 : isAt awT 14 = true := by decide +kernel
 have l : awT.length = 30 := rfl
 have e0 : endAt awT 0 = 1 := by unfold endAt; rw [a0, l]; exact awf0
 have e1 : endAt awT 10 = 13 := by unfold endAt; rw [a1, l]; exact awf1
 have e2 : endAt awT 14 = 18 := by unfold endAt; rw [a2, l]; exact awf2
 have t0 : trim (sub awT 0 1) = [(2, ⟨#[97]⟩, 0)] := by decide +kernel
 have t2 : trim (sub awT 15 18) = [(14, ⟨#[]⟩, 0), (2, ⟨#[108, 101, 102, 116]⟩, 0)] := by decide +kernel
 have r0 : isRule sd awT 0 := by
  unfold isRule
  rw [e0, a0, l]
  refine ⟨by decide, by decide +kernel, fun c => (by cases c), ?_⟩
  show sd (trim (sub awT 0 1)) = true
  rw [t0]; exact S.a
 have r1 : ¬ isRule sd awT 10 := by
  unfold isRule
  rw [e1]
  intro c
  exact absurd c.2.1 (by decide +kernel)
 have r2 : isRule sd awT 14 := by
  unfold isRule
  rw [e2, a2, l]
  refine ⟨by decide, by decide +kernel, fun _ => by decide +kernel, ?_⟩
  show sd (trim (sub awT 15 18)) = true
  rw [t2]; exact S.l
 rw [prs_0, prs_rule sd awT (by rw [l]; decide) (by decide +kernel) r0 (by rw [e0, awg0, l]; decide), e0, a0, awg0, awk0]
 rw [prs_no sd awT (a := 10) (by rw [l]; decide) (by decide +kernel) r1, e1, awk1]
 rw [prs_rule sd awT (a := 14) (by rw [l]; decide) (by decide +kernel) r2 (by rw [e2, awg1, l]; decide), e2, a2, awg1, awk2]
 rw [prs_end sd awT (a := 30) (by rw [l]; decide), awb1 S, awb2 S]
 show [((1 : Int), trim (sub awT 0 1), [awD1], ([] : List Margin)), (2, trim (sub awT 15 18), [awD2], [(⟨#[116, 111, 112, 45, 108, 101, 102, 116]⟩, [awD3])])] = awL
 rw [t0, t2]
 rfl
end
theorem sdU_small {us : List Tok} (hr : RtL us) (hl : us.length <= 2) (hk : ∀ t ∈ us, t.1 ≠ 3 /\ t.1 ≠ 12 /\ t.1 ≠ 13 /\ t.1 ≠ 7 /\ t.1 ≠ 11) : sdU us = true := by
 obtain ⟨ps, e, hR⟩ := hr
 refine (sdU_is us).2 ⟨(Pr.rightU_iff us).2 ⟨by omega, ps, e, hR⟩, ?_, fun i hi => ?_⟩
 ·rintro ⟨k, hk, h⟩
  have := opn_len us (k + 1)
  omega
 ·have h1 := hk _ (List.getElem_mem hi)
  rw [<- tk_eq hi] at h1
  have h2 := ends_none hi (not_O h1.1 h1.2.1)
  exact ⟨by omega, h1.2.2.2.1, fun c => h1.2.2.2.2 c.1, fun c => absurd c h1.2.2.1⟩
theorem nm_of {l : List Int} (h : ∀ c ∈ l, 0 < c /\ c < 128) (h2 : l ≠ []) : NmOk (str l) := ⟨l, ok_small h, h2, rfl⟩
theorem awS : AwS sdU := by
 have na : RtL [((2, str [97], 0) : Tok)] := rtl_name (.inl rfl) (nm_of (by decide) (by decide))
 have nc : RtL [((2, str [99], 0) : Tok)] := rtl_name (.inl rfl) (nm_of (by decide) (by decide))
 have nl : RtL [((2, str [108, 101, 102, 116], 0) : Tok)] := rtl_name (.inl rfl) (nm_of (by decide) (by decide))
 have nd : RtL [((10, str [101, 109], 1000) : Tok)] := rtl_one (t := (10, [101, 109], 1000)) ⟨ok_small (by decide), .inr (.inr (.inr (.inr (.inl ⟨rfl, by decide, by decide⟩))))⟩ (by decide)
 have nx : RtL [((6, str [120], 0) : Tok)] := rtl_one (t := (6, [120], 0)) ⟨ok_small (by decide), .inr (.inr (.inl ⟨.inl rfl, rfl⟩))⟩ (by decide)
 refine ⟨sdU_small na (by decide) (by decide), sdU_small nc (by decide) (by decide), sdU_small (us := [colT, (2, str [108, 101, 102, 116], 0)]) (rtl_cons rtl_col (by decide) (by decide) (by decide) nl) (by decide) (by decide), sdU_small nd (by decide) (by decide), sdU_small nx (by decide) (by decide)⟩
end Rl
namespace Rl
open Tk Ru
end Rl
end Go.Proofs.YtkcabpjfgbghjaaGreatDoor
namespace Go.Proofs.YtkcabpjfgbghjaaGreatDoor
namespace Tk
open Ru
def hk : List Tok -> Int
 | [] => 0
 | t :: _ => t.1
theorem enc_pos (c : Int) : 0 < (Lib.encodeRuneZ c).length := by
 rcases (show (0 <= c /\ c <= 127) ∨ (128 <= c /\ c <= 2047) ∨ ((2048 <= c /\ c < 55296) ∨ (57343 < c /\ c <= 65535)) ∨ (65536 <= c /\ c <= 1114111) ∨ (c < 0 ∨ (55296 <= c /\ c <= 57343) ∨ 1114111 < c) by omega) with h | h | h | h | h
 ·rw [Lib.encodeRuneZ_one h.1 h.2]; simp
 ·rw [Lib.encodeRuneZ_two h.1 h.2]; simp
 ·rw [Lib.encodeRuneZ_three h]; simp
 ·rw [Lib.encodeRuneZ_four h.1 h.2]; simp
 ·rw [Lib.encodeRuneZ_bad h]; simp
theorem qF_kind : ∀ (f : Nat) (l : List Int) (e : Int) (k : Nat), (qF f l e k).1 = 6 ∨ ((qF f l e k).1 = 7 /\ (qF f l e k).2.2 < l.length /\ g l (qF f l e k).2.2 = 10)
 | 0, _, _, _ => .inl rfl
 | f + 1, l, e, k => by
   unfold qF
   split
   ·exact .inl rfl
   ·rename_i h0
    have h1 : k < l.length := by
     by_cases c : k < l.length
     ·exact c
     ·exact absurd (fun hh => c hh.1) h0
    split
    ·rename_i h10
     exact .inr ⟨rfl, h1, h10⟩
    ·split
     ·exact qF_kind f l e _
     ·split
      ·exact qF_kind f l e _
      ·exact qF_kind f l e _
def nk (ts : List Tok) (i : Nat) : Int := if i + 1 < ts.length then (ts.getD (i + 1) (0, ⟨#[]⟩, 0)).1 else 0
end Tk
end Go.Proofs.YtkcabpjfgbghjaaGreatDoor
namespace Go.Proofs.YtkcabpjfgbghjaaGreatDoor
open Go.RowKit
namespace Rl
open Tk Ru
theorem scan_each {l : List Int} {P : Tok -> Prop} (h1 : P (1, ⟨#[]⟩, 0)) (h2 : ∀ k, k < l.length -> P (tokOf (nxt l k))) : ∀ (m k : Nat), l.length - k <= m -> k <= l.length -> ∀ t ∈ scan l k, P t
 | m, k, hm, hk, t, ht => by
   by_cases hlt : k < l.length
   ·have hsl := Tk.sp_le l k false hk
    have hsp : ∀ b, t ∈ spTok b -> P t := fun b hb => by
     cases b
     ·cases hb
     ·obtain rfl : t = (1, ⟨#[]⟩, 0) := by simpa [spTok] using hb
      exact h1
    by_cases hl2 : (Tk.sp l k false).1 < l.length
    ·have hn := nxt_le hl2
     rw [scan_on hlt hl2] at ht
     rcases List.mem_append.1 ht with ht | ht
     ·rcases List.mem_append.1 ht with ht | ht
      ·exact hsp _ ht
      ·rw [List.mem_singleton] at ht
       rw [ht]
       exact h2 _ hl2
     ·match m, hm with
      | 0, hm => omega
      | m + 1, hm => exact scan_each h1 h2 m _ (by omega) hn.2 t ht
    ·rw [scan_last hlt hl2] at ht
     exact hsp _ ht
   ·rw [scan_end hlt] at ht
    cases ht
end Rl
namespace Rl
open Tk Ru
theorem nameF_len : ∀ (f : Nat) (l : List Int) (k : Nat), (nameF f l k).1.length <= f
 | 0, l, k => Nat.le_refl _
 | f + 1, l, k => by
   rw [nameF]
   split
   ·have := nameF_len f l (oneN l k).2
    simp only [List.length_cons]; omega
   ·simp
theorem name_len (l : List Int) (k : Nat) : (name l k).1.length <= l.length := nameF_len _ _ _
theorem qF_len : ∀ (f : Nat) (l : List Int) (e : Int) (k : Nat), (qF f l e k).2.1.length <= f
 | 0, l, e, k => Nat.le_refl _
 | f + 1, l, e, k => by
   rw [qF]
   have h1 := qF_len f l e (meant l k).2
   have h2 := qF_len f l e (k + 2)
   have h3 := qF_len f l e (k + 1)
   repeat' split
   ·simp
   ·simp
   ·unfold push; simp only [List.length_cons]; omega
   ·omega
   ·unfold push; simp only [List.length_cons]; omega
theorem qq_len (l : List Int) (e : Int) (k : Nat) : (qq l e k).2.1.length <= l.length := qF_len _ _ _ _
theorem str_size (l : List Int) : (str l).size <= 4 * l.length := by
 have h := wr_len l
 unfold str
 rw [strOfNums_size]; exact h
theorem i64_small {n : Int} (h1 : -1099511627776 <= n) (h2 : n <= 1099511627776) : I64 n := by unfold I64; omega
theorem pv_i64 (t : List UInt8) : I64 (pv t) := by
 unfold pv
 split
 ·unfold Fx.num Fx.mag
  split
  ·exact i64_small (by omega) (by omega)
  ·exact i64_small (by omega) (by omega)
 ·exact i64_small (by decide) (by decide)
def Sc1 (n : Nat) (t : Tok) : Prop := I64 t.1 /\ I64 t.2.2 /\ t.2.1.size <= 4 * n
theorem sc1 {n : Nat} {r : Int × ByteArray × Int × Nat} (h1 : 0 <= r.1 /\ r.1 <= 100) (h2 : I64 r.2.2.1) (h3 : r.2.1.size <= 4 * n) : Sc1 n (tokOf r) := ⟨i64_small (by unfold tokOf; omega) (by unfold tokOf; omega), h2, h3⟩
theorem i64_0 : I64 0 := i64_small (by decide) (by decide)
theorem nval_i64 (l : List Int) (k : Nat) : I64 (nval l k) := by unfold nval; exact pv_i64 _
theorem nxt_sc {l : List Int} {k : Nat} (hk : k < l.length) : Sc1 l.length (tokOf (nxt l k)) := by
 have hn : ∀ k, (str (name l k).1).size <= 4 * l.length := fun k => by
  have h1 := str_size (name l k).1
  have h2 := name_len l k
  omega
 have he : (⟨#[]⟩ : ByteArray).size <= 4 * l.length := Nat.zero_le _
 have h1 : ∀ c, (str [c]).size <= 4 * l.length := fun c => by
  have := str_size [c]
  simp only [List.length_cons, List.length_nil] at this
  omega
 have hs : 0 <= symK (g l k) /\ symK (g l k) <= 100 := by
  unfold symK
  repeat' split
  all_goals omega
 have hq : 0 <= (qq l (g l k) (k + 1)).1 /\ (qq l (g l k) (k + 1)).1 <= 100 := by
  have hq : (qq l (g l k) (k + 1)).1 = 6 ∨ ((qq l (g l k) (k + 1)).1 = 7 /\ (qq l (g l k) (k + 1)).2.2 < l.length /\ g l (qq l (g l k) (k + 1)).2.2 = 10) := qF_kind _ _ _ _
  omega
 have hq2 : (str (qq l (g l k) (k + 1)).2.1).size <= 4 * l.length := by
  have h1 := str_size (qq l (g l k) (k + 1)).2.1
  have h2 := qq_len l (g l k) (k + 1)
  omega
 have hv := nval_i64 l k
 unfold nxt rest
 generalize nval l k = nv at *
 generalize qq l (g l k) (k + 1) = q at *
 generalize symK (g l k) = sy at *
 have hn1 := hn k
 have hn2 := hn (k + 1)
 have hn3 := hn (k + nlen l k)
 have hc := h1 (g l k)
 generalize name l k = n1 at *
 generalize name l (k + 1) = n2 at *
 generalize name l (k + nlen l k) = n3 at *
 clear hn h1 hk
 generalize str [g l k] = sg at *
 repeat' split
 ·exact sc1 hq i64_0 hq2
 ·exact sc1 ⟨by dsimp only; omega, by dsimp only; omega⟩ i64_0 hn2
 ·exact sc1 ⟨by dsimp only; omega, by dsimp only; omega⟩ hv hn3
 ·exact sc1 ⟨by dsimp only; omega, by dsimp only; omega⟩ hv he
 ·exact sc1 ⟨by dsimp only; omega, by dsimp only; omega⟩ hv he
 ·exact sc1 ⟨by dsimp only; omega, by dsimp only; omega⟩ i64_0 hn2
 ·exact sc1 ⟨by dsimp only; omega, by dsimp only; omega⟩ i64_0 hn1
 ·exact sc1 ⟨by dsimp only; omega, by dsimp only; omega⟩ i64_0 hn1
 ·exact sc1 ⟨by dsimp only; omega, by dsimp only; omega⟩ i64_0 he
 ·exact sc1 ⟨by dsimp only; omega, by dsimp only; omega⟩ i64_0 he
 ·exact sc1 ⟨by dsimp only; omega, by dsimp only; omega⟩ i64_0 he
 ·exact sc1 hs i64_0 hc
theorem scan_sc (l : List Int) : ∀ t ∈ scan l 0, Sc1 l.length t :=
 scan_each (P := Sc1 l.length) ⟨i64_small (by decide) (by decide), i64_0, Nat.zero_le _⟩ (fun _ hk => nxt_sc hk) _ 0 (Nat.le_refl _) (Nat.zero_le _)
theorem scan_wf (l : List Int) : Pr.Wf (scan l 0) := fun j hj => by
 have := scan_sc l _ (List.getElem_mem hj)
 rw [tk_eq hj]
 exact ⟨this.1, this.2.1⟩
theorem scan_fair {l : List Int} (h : l.length <= 8000) : Pr.FairB (scan l 0) := by
 refine ⟨?_, fun j hj => ?_⟩
 ·have := scan_len l _ 0 (Nat.le_refl _)
  omega
 ·have := (scan_sc l _ (List.getElem_mem hj)).2.2
  rw [tk_eq hj]
  omega
end Rl
theorem plain_any (c : Int) (w : World) :
 Calls Tryz.prog 85 #[.int .i32 c] w fun e w' => e = .returned (.int .i32 (Ru.plain c)) /\ w = w' := by
 by_cases a1 : c = 13
 ·subst a1
  go_enter Tryz.func85, Tryz.ntmps85
  go_wp2_with fail
  go_ret
  exact ⟨rfl, rfl⟩
 ·by_cases a2 : c = 12
  ·subst a2
   go_enter Tryz.func85, Tryz.ntmps85
   go_wp2_with fail
   go_ret
   exact ⟨rfl, rfl⟩
  ·by_cases a3 : c = 0
   ·subst a3
    go_enter Tryz.func85, Tryz.ntmps85
    go_wp2_with fail
    go_ret
    exact ⟨rfl, rfl⟩
   ·have e1 := Ru.eq_f a1
    have e2 := Ru.eq_f a2
    have e3 := Ru.eq_f a3
    go_enter Tryz.func85, Tryz.ntmps85
    go_wp2_with fail
    go_ret
    exact ⟨ret_int (by unfold Ru.plain; simp [a1, a2, a3]), rfl⟩
theorem hex_any (c : Int) (w : World) :
 Calls Tryz.prog 194 #[.int .i32 c] w fun e w' => e = .returned (.int .i64 (Ru.hexV c)) /\ w = w' := by
 by_cases b : 48 <= c /\ c <= 57
 ·have hd : Ru.digB c = true := decide_eq_true b
  obtain ⟨b1, b2⟩ := b
  go_enter Tryz.func194, Tryz.ntmps194
  go_wp2_with (go_at_call 158; refine (isdigit_any _ _).mono ?_; rintro e w' ⟨rfl, rfl⟩)
  go_ret
  exact ⟨ret_int (by unfold Ru.hexV; rw [if_pos ⟨b1, b2⟩]), rfl⟩
 ·have hd : Ru.digB c = false := decide_eq_false b
  by_cases a1 : 97 <= c <;> by_cases a2 : c <= 102 <;> by_cases a3 : 65 <= c <;> by_cases a4 : c <= 70
  all_goals try omega
  all_goals
   go_enter Tryz.func194, Tryz.ntmps194
   go_wp2_with (go_at_call 158; refine (isdigit_any _ _).mono ?_; rintro e w' ⟨rfl, rfl⟩)
   go_ret
   exact ⟨ret_int (by unfold Ru.hexV; omega), rfl⟩
end Go.Proofs.YtkcabpjfgbghjaaGreatDoor
