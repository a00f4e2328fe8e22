/-
  The walks of nest's within, leads and Skip.
-/
import Derived.Test.YtpjdaenmfdcjhaaGae
import Derived.Test.YtpjdaenmfdcjhaaGaf
import Derived.Deep.RegionHeld3
import Derived.Deep.QuietTactic
import Derived.BigQuiet
namespace Go.Proofs.Ytpjdaenmfdcjhaa
open Go.RowKit

set_option maxHeartbeats 1000000 in
set_option maxRecDepth 100000 in
theorem within_any (ts : List Tk.Tok) (A : Option Addr) (ca : Nat) (fr tz : Int) (w : World) :
    Calls Try.prog 29 #[.slice A ts.length ca, .int .i64 fr, .int .i64 tz] w fun e w' => e = .returned (.bool (decide (Ns.okp ts fr tz))) ∧ w = w' := by
  by_cases h1 : 0 ≤ fr
  · have d1 : decide (0 ≤ fr) = true := decide_eq_true h1
    by_cases h2 : fr ≤ tz
    · have d2 : decide (fr ≤ tz) = true := decide_eq_true h2
      by_cases h3 : tz ≤ (ts.length : Int)
      · have d3 : decide (tz ≤ (ts.length : Int)) = true := decide_eq_true h3
        have HV : Hid (decide (Ns.okp ts fr tz) = true) := Lib.hid (decide_eq_true ⟨h1, h2, h3⟩)
        go_enter Try.func29, Try.ntmps29
        go_wp2_with fail
        go_ret
        exact ⟨by rw [HV.out]; rfl, rfl⟩
      · have d3 : decide (tz ≤ (ts.length : Int)) = false := decide_eq_false h3
        have HV : Hid (decide (Ns.okp ts fr tz) = false) := Lib.hid (decide_eq_false fun c => h3 c.2.2)
        go_enter Try.func29, Try.ntmps29
        go_wp2_with fail
        go_ret
        exact ⟨by rw [HV.out]; rfl, rfl⟩
    · have d2 : decide (fr ≤ tz) = false := decide_eq_false h2
      have HV : Hid (decide (Ns.okp ts fr tz) = false) := Lib.hid (decide_eq_false fun c => h2 c.2.1)
      go_enter Try.func29, Try.ntmps29
      go_wp2_with fail
      go_ret
      exact ⟨by rw [HV.out]; rfl, rfl⟩
  · have d1 : decide (0 ≤ fr) = false := decide_eq_false h1
    have HV : Hid (decide (Ns.okp ts fr tz) = false) := Lib.hid (decide_eq_false fun c => h1 c.1)
    go_enter Try.func29, Try.ntmps29
    go_wp2_with fail
    go_ret
    exact ⟨by rw [HV.out]; rfl, rfl⟩
set_option maxHeartbeats 1000000 in
set_option maxRecDepth 100000 in
theorem leads_any (es : List Int) (hm : es.length ≤ 65536) (hL : Ns.Lead es) (C : Option Addr) (cc : Nat) (a : Nat) (ha : a < es.length) (w : World) (h : Bs w w.heap.size .i64 C es) :
    Calls Try.prog 33 #[.slice C es.length cc, .int .i64 a] w fun e w' => e = .returned (.bool (!decide (Ru.g es a = -1))) ∧ w = w' := by
  obtain ⟨b, off, rfl, hb, hp⟩ := h (by omega)
  have p0 := hp a ha
  rcases hL a ha with h1 | h1 | ⟨h1, h2, h3⟩
  · have HV : Hid ((!decide (Ru.g es a = -1)) = false) := Lib.hid (by rw [h1]; rfl)
    rw [h1] at p0
    clear hp hL h h1
    go_enter Try.func33, Try.ntmps33
    go_wp2_with fail
    go_ret
    exact ⟨by rw [HV.out]; rfl, rfl⟩
  · have HV : Hid ((!decide (Ru.g es a = -1)) = true) := Lib.hid (by rw [decide_eq_false (by omega)]; rfl)
    rw [h1] at p0
    clear hp hL h h1
    go_enter Try.func33, Try.ntmps33
    go_wp2_with fail
    go_ret
    exact ⟨by rw [HV.out]; rfl, rfl⟩
  · have HV : Hid ((!decide (Ru.g es a = -1)) = true) := Lib.hid (by rw [decide_eq_false (by omega)]; rfl)
    obtain ⟨g, hg⟩ : ∃ g : Nat, Ru.g es a = g := ⟨(Ru.g es a).toNat, by omega⟩
    rw [hg] at p0 h1 h2 h3
    rw [Int.toNat_natCast] at h3
    have hgl : g < es.length := by omega
    have hag : a < g := by omega
    have p1 := hp g hgl
    rw [h3] at p1
    have hne : (g == es.length) = false := beq_false_of_ne (by omega)
    have hne2 : ((g : Int) == (es.length : Int)) = false := beq_false_of_ne (by omega)
    clear hp hL h h1 h2 h3 hg
    go_enter Try.func33, Try.ntmps33
    go_wp2_with fail
    go_ret
    exact ⟨by rw [HV.out]; rfl, rfl⟩
set_option maxHeartbeats 1000000 in
set_option maxRecDepth 100000 in
theorem skipC : SkipC := by
  intro es hF hL A cap a ha w h
  have hm := hF.1
  by_cases h0 : a < 0
  · have d0 : decide (a < 0) = true := decide_eq_true h0
    have HV : Hid (Ns.skp es a = a + 1) := Lib.hid (Ns.skp_no fun c => by omega)
    clear h hF hL
    go_enter Try.func22, Try.ntmps22
    go_wp2_with fail
    go_ret
    exact ⟨by rw [HV.out]; rfl, Below.refl _ _⟩
  · have d0 : decide (a < 0) = false := decide_eq_false h0
    obtain ⟨n, rfl⟩ : ∃ n : Nat, a = n := ⟨a.toNat, by omega⟩
    by_cases h1 : (es.length : Int) ≤ (n : Int)
    · have d1 : decide ((es.length : Int) ≤ (n : Int)) = true := decide_eq_true h1
      have d2 : decide (es.length ≤ n) = true := decide_eq_true (by omega)
      have HV : Hid (Ns.skp es n = n + 1) := Lib.hid (Ns.skp_no fun c => by omega)
      clear h hF hL
      go_enter Try.func22, Try.ntmps22
      go_wp2_with fail
      go_ret
      exact ⟨by rw [HV.out]; rfl, Below.refl _ _⟩
    · have d1 : decide ((es.length : Int) ≤ (n : Int)) = false := decide_eq_false h1
      have hlt : n < es.length := by omega
      have d2 : decide (es.length ≤ n) = false := decide_eq_false (by omega)
      have CL := Lib.hid (leads_any es hm hL A cap n hlt w h)
      have hb2 := hF.2 n hlt
      by_cases h2 : Ru.g es n = -1
      · have HV : Hid (Ns.skp es n = n + 1) := Lib.hid (Ns.skp_no fun c => by rw [Int.toNat_natCast] at c; omega)
        rw [decide_eq_true h2] at CL
        clear h hF hL h2 hb2
        go_enter Try.func22, Try.ntmps22
        go_wp2_with (go_at_call 33; ((with_reducible refine (CL.out).mono ?_); rintro e w1 ⟨rfl, rfl⟩))
        go_ret
        exact ⟨by rw [HV.out]; rfl, Below.refl _ _⟩
      · have hge : (n : Int) ≤ Ru.g es n := by rcases hL n hlt with c | c | c <;> omega
        have HV : Hid (Ns.skp es n = min (Ru.g es n + 1) es.length) := Lib.hid (by rw [Ns.skp_yes (by omega) (by omega) (by rw [Int.toNat_natCast]; exact hge), Int.toNat_natCast])
        rw [decide_eq_false h2] at CL
        obtain ⟨b, off, rfl, hb, hp⟩ := h (by omega)
        have p0 := hp n hlt
        clear h hF hL h2 hp hge
        generalize Ru.g es n = x at *
        go_enter Try.func22, Try.ntmps22
        go_wp2_with (go_at_call 33; ((with_reducible refine (CL.out).mono ?_); rintro e w1 ⟨rfl, rfl⟩))
        go_ret
        exact ⟨by rw [HV.out]; rfl, Below.refl _ _⟩
end Go.Proofs.Ytpjdaenmfdcjhaa

/-
  The walk of nest's fits.
-/
namespace Go.Proofs.Ytpjdaenmfdcjhaa
open Go.RowKit

set_option maxHeartbeats 4000000 in
set_option maxRecDepth 100000 in
theorem fits_any (ts : List Tk.Tok) (hm : ts.length ≤ 1000) (A C : Option Addr) (ca cc : Nat) (a : Nat) (ha : a < ts.length) (w : World) (h : Ts w w.heap.size A ts) (h2 : Bs w w.heap.size .i64 C (Ns.ends ts)) :
    Calls Try.prog 34 #[.slice A ts.length ca, .slice C (Ns.ends ts).length cc, .int .i64 a] w (Bo true w) := by
  have hel := Ns.ends_len ts
  have hae : a < (Ns.ends ts).length := by omega
  have CL : Hid (∀ W, Below w.heap.size w W → Calls Try.prog 33 #[.slice C (Ns.ends ts).length cc, .int .i64 a] W fun e w' => e = .returned (.bool (!decide (Ru.g (Ns.ends ts) a = -1))) ∧ W = w') :=
    Lib.hid fun W hb => leads_any (Ns.ends ts) (by omega) (Ns.ends_lead ts) C cc a hae W (h2.next hb)
  have CC : Hid (∀ W, Calls Try.prog 26 #[.agg #[.int .i64 (Tk.tk ts a).1, .string (Tk.tk ts a).2.1, .int .i64 (Tk.tk ts a).2.2]] W (Sg (Ns.clo (Tk.tk ts a)) W)) := Lib.hid fun W => closing_any _ _ _ W
  obtain ⟨b, off, rfl, hb, hp⟩ := h2 (by omega)
  obtain ⟨bb, of2, rfl, hbb, hp2⟩ := h (by omega)
  have p0 := hp a hae
  obtain ⟨q0, q1, q2⟩ := hp2 a ha
  clear h h2
  by_cases hO : Ns.isO (Tk.tk ts a)
  · have he := Ns.empty_f hO
    rcases Ns.ends_pair ha hO with hx | ⟨j, h1, h2, h3, h4, h5, h6⟩
    · rw [hx] at p0 CL
      rw [show (!decide ((ts.length : Int) = -1)) = true by rw [decide_eq_false (by omega)]; rfl] at CL
      have HEL := Lib.hid hel
      clear hp hp2 hO hx hel
      generalize Ns.clo (Tk.tk ts a) = cl at *
      generalize Tk.tk ts a = u at *
      go_enter Try.func34, Try.ntmps34
      go_wp2_with (go_at_call 26; ((with_reducible refine (CC.out _).mono ?_); rintro e w1 ⟨rfl, b1⟩; have HB1 := Lib.hid b1; have r0 := (b1.cell (p := ⟨b, off + a, none⟩) hb).trans p0; clear b1))
      go_quiet ((go_at_call 33; exact Calls.quiet_of_same ((CL.out _ (below_drewN HB1.out _)).mono fun _ _ h => ⟨h.1, h.2.symm⟩)))
      go_wp2_with fail
      go_ret
      exact ⟨rfl, below_drewN HB1.out _⟩
    · obtain ⟨s0, s1, s2⟩ := hp2 j h2
      have HV : Hid (decide (Ns.shuts (Tk.tk ts j) (Tk.tk ts a)) = true) := Lib.hid (decide_eq_true ⟨h4, h5⟩)
      have CT : Hid (∀ W, Calls Try.prog 27 #[.agg #[.int .i64 (Tk.tk ts j).1, .string (Tk.tk ts j).2.1, .int .i64 (Tk.tk ts j).2.2], .agg #[.int .i64 (Tk.tk ts a).1, .string (Tk.tk ts a).2.1, .int .i64 (Tk.tk ts a).2.2]] W (Bo true W)) := Lib.hid fun W => by
        have := closes_any (Tk.tk ts j).1 (Tk.tk ts j).2.1 (Tk.tk ts j).2.2 (Tk.tk ts a).1 (Tk.tk ts a).2.1 (Tk.tk ts a).2.2 W
        rw [show decide (Ns.shuts ((Tk.tk ts j).1, (Tk.tk ts j).2.1, (Tk.tk ts j).2.2) ((Tk.tk ts a).1, (Tk.tk ts a).2.1, (Tk.tk ts a).2.2)) = true from HV.out] at this
        exact this
      rw [h3] at p0 CL
      rw [show (!decide ((j : Int) = -1)) = true by rw [decide_eq_false (by omega)]; rfl] at CL
      have hne : (j == ts.length) = false := beq_false_of_ne (by omega)
      have hne2 : ((j : Int) == (ts.length : Int)) = false := beq_false_of_ne (by omega)
      have hj2 : (j : Int) < (ts.length : Int) := by omega
      have ha2 : (a : Int) < (ts.length : Int) := by omega
      have ha3 : (a : Int) < ((Ns.ends ts).length : Int) := by omega
      clear hp hp2 hO h3 h4 h5 h6 hel HV
      generalize Ns.clo (Tk.tk ts a) = cl at *
      generalize Tk.tk ts a = u at *
      generalize Tk.tk ts j = v at *
      generalize Ns.ends ts = es at *
      go_enter Try.func34, Try.ntmps34
      go_wp2_with (go_at_call 26; ((with_reducible refine (CC.out _).mono ?_); rintro e w1 ⟨rfl, b1⟩; have HB1 := Lib.hid b1; have r0 := (b1.cell (p := ⟨b, off + a, none⟩) hb).trans p0; have u0 := (b1.cell (p := ⟨bb, of2 + a * 3, none⟩) hbb).trans q0; have u1 := (b1.cell (p := ⟨bb, of2 + a * 3 + 1, none⟩) hbb).trans q1; have u2 := (b1.cell (p := ⟨bb, of2 + a * 3 + 2, none⟩) hbb).trans q2; have v0 := (b1.cell (p := ⟨bb, of2 + j * 3, none⟩) hbb).trans s0; have v1 := (b1.cell (p := ⟨bb, of2 + j * 3 + 1, none⟩) hbb).trans s1; have v2 := (b1.cell (p := ⟨bb, of2 + j * 3 + 2, none⟩) hbb).trans s2; clear b1))
      clear p0 q0 q1 q2 s0 s1 s2
      have hb1' := Nat.lt_of_lt_of_le hb HB1.out.size
      have hbb1 := Nat.lt_of_lt_of_le hbb HB1.out.size
      go_region_held3 (fun w' => w'.cell? ⟨b, off + a, none⟩ = some (.int .i64 j) ∧ w'.cell? ⟨bb, of2 + a * 3, none⟩ = some (.int .i64 u.1) ∧ w'.cell? ⟨bb, of2 + a * 3 + 1, none⟩ = some (.string u.2.1) ∧ w'.cell? ⟨bb, of2 + a * 3 + 2, none⟩ = some (.int .i64 u.2.2) ∧ w'.cell? ⟨bb, of2 + j * 3, none⟩ = some (.int .i64 v.1) ∧ w'.cell? ⟨bb, of2 + j * 3 + 1, none⟩ = some (.string v.2.1) ∧ w'.cell? ⟨bb, of2 + j * 3 + 2, none⟩ = some (.int .i64 v.2.2))
        (first | go_keep | (go_split_ands; exact ⟨(hb1.cell (p := ⟨b, off + a, none⟩) hb1').trans (by assumption), (hb1.cell (p := ⟨bb, of2 + a * 3, none⟩) hbb1).trans (by assumption), (hb1.cell (p := ⟨bb, of2 + a * 3 + 1, none⟩) hbb1).trans (by assumption), (hb1.cell (p := ⟨bb, of2 + a * 3 + 2, none⟩) hbb1).trans (by assumption), (hb1.cell (p := ⟨bb, of2 + j * 3, none⟩) hbb1).trans (by assumption), (hb1.cell (p := ⟨bb, of2 + j * 3 + 1, none⟩) hbb1).trans (by assumption), (hb1.cell (p := ⟨bb, of2 + j * 3 + 2, none⟩) hbb1).trans (by assumption)⟩))
        (first | (go_at_call 33; refine (CL.out _ HB1.out.drew).mono ?_; rintro e w2 ⟨rfl, rfl⟩) | (go_at_call 27; refine (CT.out _).mono ?_; rintro e w2 ⟨rfl, hb1⟩))
      have HB2 := Lib.hid (below_next HB1.out ((Below.refl _ _).drew.trans hb1))
      clear hb1 r0 u0 u1 u2 v0 v1 v2
      go_wp2_with fail
      go_ret
      exact ⟨rfl, HB2.out⟩
  · have hcn := Ns.clo_none hO
    have hx : Ru.g (Ns.ends ts) a = -1 := Ns.ends_none ha hO
    rw [hx] at p0
    rw [hcn] at CC
    clear hp hp2 hO hcn hx CL
    generalize Tk.tk ts a = u at *
    go_enter Try.func34, Try.ntmps34
    go_wp2_with (go_at_call 26; ((with_reducible refine (CC.out _).mono ?_); rintro e w1 ⟨rfl, b1⟩; have HB1 := Lib.hid b1; have r0 := (b1.cell (p := ⟨b, off + a, none⟩) hb).trans p0; clear b1))
    go_ret
    exact ⟨rfl, HB1.out⟩
end Go.Proofs.Ytpjdaenmfdcjhaa
