/-
  The walk of nest's find, with a closure that tells a token's kind.
-/
import Derived.Test.YtpjdaenmfdcjhaaGah
import Derived.ScopeJumps
import Derived.LoopTactic
namespace Go.Proofs.Ytpjdaenmfdcjhaa
open Go.RowKit

theorem cell_kept {w W : World} {bk : Nat} {v : Value} (hb : Below w.heap.size w W) (hl : bk < w.heap.size) (h : w.cell? ⟨bk, 0, none⟩ = some v) : W.cell? ⟨bk, 0, none⟩ = some v := (hb.cell (p := ⟨bk, 0, none⟩) hl).trans h
/-- at find's label -/
def FindJ (ts : List Tk.Tok) (S C : Value) (fr tz : Nat) (kd : Int) (is : Value) (w : World) (a' : Act) (wr : World) : Prop :=
  ∃ (x : Nat) (u5 u6 u7 u8 u9 u10 u11 u13 u14 u15 u16 u17 u18 u19 u20 u21 u22 u23 u24 u25 u26 u27 u28 u29 u30 u31 : Value), a' = { tmps := #[S, C, .int .i64 fr, .int .i64 tz, is, u5, u6, u7, u8, u9, u10, u11, .int .i64 x, u13, u14, u15, u16, u17, u18, u19, u20, u21, u22, u23, u24, u25, u26, u27, u28, u29, u30, u31], defers := [] } ∧ x ≤ ts.length ∧ Hid (Ns.fnd (Ns.isK ts kd) (Ns.plc (Ns.ends ts) tz fr) = Ns.fnd (Ns.isK ts kd) (Ns.plc (Ns.ends ts) tz x)) ∧ Hid (Below w.heap.size w wr)
/-- the place that the frame holds -/
def atOf (a : Act) : Nat := (RowKit.intOf (a.tmps.getD 12 undef)).toNat
/-- a place and that it was told -/
def Fd (n : Int) (w : World) (e : Ending) (w' : World) : Prop := e = .returned (.tuple #[.int .i64 n, .bool true]) ∧ Below w.heap.size w w'

set_option maxHeartbeats 1000000 in
set_option maxRecDepth 100000 in
theorem isL_any (u : Tk.Tok) (bk : Nat) (kd : Int) (w : World) (hl : bk < w.heap.size) (h : w.cell? ⟨bk, 0, none⟩ = some (.int .i64 kd)) :
    Calls Try.prog 15 #[.agg #[.int .i64 u.1, .string u.2.1, .int .i64 u.2.2], .pointer (some ⟨bk, 0, none⟩)] w (Bo (decide (u.1 = kd)) w) := by
  obtain ⟨W0, hW⟩ : ∃ W0, W0 = w.alloc (.cells #[.int .i64 u.1, .string u.2.1, .int .i64 u.2.2] 31) := ⟨_, rfl⟩
  have hb0 : Below w.heap.size w W0 := by rw [hW]; exact (Below.refl _ _).alloc (Nat.le_refl _) _
  have k0 : W0.heap[w.heap.size]? = some (.cells #[.int .i64 u.1, .string u.2.1, .int .i64 u.2.2] 31 (0, 0)) := by rw [hW]; exact heap_alloc_new w _
  obtain ⟨p0, p1, p2⟩ := tok3_cells k0
  have q0 := cell_kept hb0 hl h
  have HB0 := Lib.hid hb0
  have HW := Lib.hid hW.symm
  clear hb0 k0 hW h
  by_cases hk : u.1 = kd
  · have HV : Hid (decide (u.1 = kd) = true) := Lib.hid (decide_eq_true hk)
    rw [hk] at p0
    clear hk
    go_enter Try.func15, Try.ntmps15
    go_upto_region 1 with fail
    rw [HW.out]
    clear HW
    go_wp2_with fail
    go_ret
    exact ⟨by rw [HV.out]; rfl, HB0.out⟩
  · have HV : Hid (decide (u.1 = kd) = false) := Lib.hid (decide_eq_false hk)
    have e : (u.1 == kd) = false := beq_false_of_ne hk
    clear hk
    go_enter Try.func15, Try.ntmps15
    go_upto_region 1 with fail
    rw [HW.out]
    clear HW
    go_wp2_with fail
    go_ret
    exact ⟨by rw [HV.out]; rfl, HB0.out⟩
set_option maxHeartbeats 4000000 in
set_option maxRecDepth 100000 in
theorem findL_any (ts : List Tk.Tok) (hm : ts.length ≤ 1000) (A C : Option Addr) (ca cc : Nat) (fr tz : Nat) (hfr : fr ≤ ts.length) (htz : tz ≤ ts.length) (kd : Int) (bk : Nat) (w : World) (hl : bk < w.heap.size) (hk : w.cell? ⟨bk, 0, none⟩ = some (.int .i64 kd)) (h : Ts w w.heap.size A ts) (h2 : Bs w w.heap.size .i64 C (Ns.ends ts)) :
    Calls Try.prog 30 #[.slice A ts.length ca, .slice C (Ns.ends ts).length cc, .int .i64 fr, .int .i64 tz, .func (Fn.func 15) #[] #[.pointer (some ⟨bk, 0, none⟩)]] w (Fd (Ns.fnd (Ns.isK ts kd) (Ns.plc (Ns.ends ts) tz fr)) w) := by
  have hel := Ns.ends_len ts
  have HF : Hid (∀ (x : Nat) (W : World), x < ts.length → Below w.heap.size w W → Calls Try.prog 34 #[.slice A ts.length ca, .slice C (Ns.ends ts).length cc, .int .i64 x] W (Bo true W)) := Lib.hid fun x W hx hb => fits_any ts hm A C ca cc x hx W (h.next hb) (h2.next hb)
  have HI : Hid (∀ (x : Nat) (W : World), Below w.heap.size w W → Calls Try.prog 15 #[.agg #[.int .i64 (Tk.tk ts x).1, .string (Tk.tk ts x).2.1, .int .i64 (Tk.tk ts x).2.2], .pointer (some ⟨bk, 0, none⟩)] W (Bo (decide ((Tk.tk ts x).1 = kd)) W)) := Lib.hid fun x W hb => isL_any _ bk kd W (Nat.lt_of_lt_of_le hl hb.size) (cell_kept hb hl hk)
  have HK : Hid (∀ (x : Nat) (W : World), x < ts.length → Below w.heap.size w W → Calls Try.prog 22 #[.slice C (Ns.ends ts).length cc, .int .i64 x] W (Nu ((Ns.sk (Ns.ends ts) x : Nat) : Int) W)) := Lib.hid fun x W hx hb => by
    rw [Ns.sk_eq]; exact skipC _ (Ns.ends_fit (by omega)) (Ns.ends_lead ts) C cc x (by omega) W (h2.next hb)
  have H := Lib.hid h
  have HL : Hid (∀ x, x < ts.length → Ns.sk (Ns.ends ts) x ≤ ts.length) := Lib.hid fun x hx => by
    have := Ns.sk_le (es := Ns.ends ts) (a := x) (by omega)
    omega
  clear h h2 hl hk hel
  go_enter Try.func30, Try.ntmps30
  go_wp2_with fail
  refine wp_scope_jumps 0 (fun a' wr => FindJ ts (.slice A ts.length ca) (.slice C (Ns.ends ts).length cc) fr tz kd (.func (Fn.func 15) #[] #[.pointer (some ⟨bk, 0, none⟩)]) w a' wr) (fun a' _ => tz - atOf a') rfl ?_ ?_
  · go_wp2_with fail
    try go_step3
    have HN : Hid (Ns.fnd (Ns.isK ts kd) (Ns.plc (Ns.ends ts) tz fr) = Ns.fnd (Ns.isK ts kd) (Ns.plc (Ns.ends ts) tz fr)) := Lib.hid rfl
    have HB := Lib.hid (Below.refl w.heap.size w)
    by_cases hlt : fr < tz
    · have hxl : fr < ts.length := by omega
      obtain ⟨bb, off, rfl, hbb, hp⟩ := H.out.next HB.out (by omega)
      obtain ⟨p0, p1, p2⟩ := hp fr hxl
      have CF := Lib.hid (HF.out fr _ hxl HB.out)
      have CI := Lib.hid (HI.out fr)
      have hsl := HL.out fr hxl
      have hgt := Ns.sk_gt (Ns.ends ts) fr
      have d1 : decide (tz ≤ fr) = false := decide_eq_false (by omega)
      clear hp HF HI HL
      by_cases hy : (Tk.tk ts fr).1 = kd
      · have HV : Hid (Ns.fnd (Ns.isK ts kd) (Ns.plc (Ns.ends ts) tz fr) = fr) := Lib.hid (by rw [HN.out, Ns.plc_on hlt, Ns.fnd, if_pos (show Ns.isK ts kd fr = true from decide_eq_true hy)])
        rw [decide_eq_true hy] at CI
        clear hy HN HK hsl hgt
        generalize Tk.tk ts fr = u at *
        go_wp2_with (first | (go_at_call 34; ((with_reducible refine (CF.out).mono ?_); rintro e w1 ⟨rfl, b1⟩; have HB1 := Lib.hid (below_next HB.out b1); have r0 := (b1.cell (p := ⟨bb, off + fr * 3, none⟩) hbb).trans p0; have r1 := (b1.cell (p := ⟨bb, off + fr * 3 + 1, none⟩) hbb).trans p1; have r2 := (b1.cell (p := ⟨bb, off + fr * 3 + 2, none⟩) hbb).trans p2; clear b1)) | (go_at_call 15; ((with_reducible refine (CI.out _ HB1.out).mono ?_); rintro e w2 ⟨rfl, b2⟩; have HB2 := Lib.hid (below_next HB1.out b2); clear b2 r0 r1 r2)))
        simp only [Exit.jump]
        go_ret2
        exact ⟨by rw [HV.out]; rfl, HB2.out⟩
      · have HV : Hid (Ns.fnd (Ns.isK ts kd) (Ns.plc (Ns.ends ts) tz fr) = Ns.fnd (Ns.isK ts kd) (Ns.plc (Ns.ends ts) tz (Ns.sk (Ns.ends ts) fr))) := Lib.hid (by rw [HN.out, Ns.plc_on hlt, Ns.fnd, if_neg (fun (c : Ns.isK ts kd fr = true) => hy (of_decide_eq_true c))])
        have CK := Lib.hid (fun W hb => HK.out fr W hxl hb)
        rw [decide_eq_false hy] at CI
        clear hy HN HK
        generalize Tk.tk ts fr = u at *
        go_wp2_with (first | (go_at_call 34; ((with_reducible refine (CF.out).mono ?_); rintro e w1 ⟨rfl, b1⟩; have HB1 := Lib.hid (below_next HB.out b1); have r0 := (b1.cell (p := ⟨bb, off + fr * 3, none⟩) hbb).trans p0; have r1 := (b1.cell (p := ⟨bb, off + fr * 3 + 1, none⟩) hbb).trans p1; have r2 := (b1.cell (p := ⟨bb, off + fr * 3 + 2, none⟩) hbb).trans p2; clear b1)) | (go_at_call 15; ((with_reducible refine (CI.out _ HB1.out).mono ?_); rintro e w2 ⟨rfl, b2⟩; have HB2 := Lib.hid (below_next HB1.out b2); clear b2 r0 r1 r2)) | (go_at_call 22; ((with_reducible refine (CK.out _ HB2.out).mono ?_); rintro e w3 ⟨rfl, b3⟩; have HB3 := Lib.hid (below_next HB2.out b3); clear b3)))
        go_step3
        exact ⟨rfl, ⟨_, _, _, _, _, _, _, _, _, _, _, _, _, _, _, _, _, _, _, _, _, _, _, _, _, _, _, rfl, hsl, HV, HB3⟩⟩
    · have HV : Hid (Ns.fnd (Ns.isK ts kd) (Ns.plc (Ns.ends ts) tz fr) = -1) := Lib.hid (by rw [HN.out, Ns.plc_end hlt]; rfl)
      have d1 : decide (tz ≤ fr) = true := decide_eq_true (by omega)
      clear HF HI HL HN HK H
      go_wp2_with fail
      simp only [Exit.jump]
      go_ret2
      exact ⟨by rw [HV.out]; rfl, HB.out⟩
  · rintro a' wr ⟨x, u5, u6, u7, u8, u9, u10, u11, u13, u14, u15, u16, u17, u18, u19, u20, u21, u22, u23, u24, u25, u26, u27, u28, u29, u30, u31, rfl, hx, HN, HB⟩
    by_cases hlt : x < tz
    · have hxl : x < ts.length := by omega
      obtain ⟨bb, off, rfl, hbb, hp⟩ := H.out.next HB.out (by omega)
      obtain ⟨p0, p1, p2⟩ := hp x hxl
      have CF := Lib.hid (HF.out x _ hxl HB.out)
      have CI := Lib.hid (HI.out x)
      have hsl := HL.out x hxl
      have hgt := Ns.sk_gt (Ns.ends ts) x
      have d1 : decide (tz ≤ x) = false := decide_eq_false (by omega)
      clear hp HF HI HL
      by_cases hy : (Tk.tk ts x).1 = kd
      · have HV : Hid (Ns.fnd (Ns.isK ts kd) (Ns.plc (Ns.ends ts) tz fr) = x) := Lib.hid (by rw [HN.out, Ns.plc_on hlt, Ns.fnd, if_pos (show Ns.isK ts kd x = true from decide_eq_true hy)])
        rw [decide_eq_true hy] at CI
        clear hy HN HK hsl hgt
        generalize Tk.tk ts x = u at *
        go_wp2_with (first | (go_at_call 34; ((with_reducible refine (CF.out).mono ?_); rintro e w1 ⟨rfl, b1⟩; have HB1 := Lib.hid (below_next HB.out b1); have r0 := (b1.cell (p := ⟨bb, off + x * 3, none⟩) hbb).trans p0; have r1 := (b1.cell (p := ⟨bb, off + x * 3 + 1, none⟩) hbb).trans p1; have r2 := (b1.cell (p := ⟨bb, off + x * 3 + 2, none⟩) hbb).trans p2; clear b1)) | (go_at_call 15; ((with_reducible refine (CI.out _ HB1.out).mono ?_); rintro e w2 ⟨rfl, b2⟩; have HB2 := Lib.hid (below_next HB1.out b2); clear b2 r0 r1 r2)))
        simp only [Exit.jump]
        go_ret2
        exact ⟨by rw [HV.out]; rfl, HB2.out⟩
      · have HV : Hid (Ns.fnd (Ns.isK ts kd) (Ns.plc (Ns.ends ts) tz fr) = Ns.fnd (Ns.isK ts kd) (Ns.plc (Ns.ends ts) tz (Ns.sk (Ns.ends ts) x))) := Lib.hid (by rw [HN.out, Ns.plc_on hlt, Ns.fnd, if_neg (fun (c : Ns.isK ts kd x = true) => hy (of_decide_eq_true c))])
        have CK := Lib.hid (fun W hb => HK.out x W hxl hb)
        rw [decide_eq_false hy] at CI
        clear hy HN HK
        generalize Tk.tk ts x = u at *
        go_wp2_with (first | (go_at_call 34; ((with_reducible refine (CF.out).mono ?_); rintro e w1 ⟨rfl, b1⟩; have HB1 := Lib.hid (below_next HB.out b1); have r0 := (b1.cell (p := ⟨bb, off + x * 3, none⟩) hbb).trans p0; have r1 := (b1.cell (p := ⟨bb, off + x * 3 + 1, none⟩) hbb).trans p1; have r2 := (b1.cell (p := ⟨bb, off + x * 3 + 2, none⟩) hbb).trans p2; clear b1)) | (go_at_call 15; ((with_reducible refine (CI.out _ HB1.out).mono ?_); rintro e w2 ⟨rfl, b2⟩; have HB2 := Lib.hid (below_next HB1.out b2); clear b2 r0 r1 r2)) | (go_at_call 22; ((with_reducible refine (CK.out _ HB2.out).mono ?_); rintro e w3 ⟨rfl, b3⟩; have HB3 := Lib.hid (below_next HB2.out b3); clear b3)))
        go_step3
        exact ⟨rfl, ⟨_, _, _, _, _, _, _, _, _, _, _, _, _, _, _, _, _, _, _, _, _, _, _, _, _, _, _, rfl, hsl, HV, HB3⟩, by unfold atOf; simp [RowKit.intOf]; omega⟩
    · have HV : Hid (Ns.fnd (Ns.isK ts kd) (Ns.plc (Ns.ends ts) tz fr) = -1) := Lib.hid (by rw [HN.out, Ns.plc_end hlt]; rfl)
      have d1 : decide (tz ≤ x) = true := decide_eq_true (by omega)
      clear HF HI HL HN HK H
      go_wp2_with fail
      simp only [Exit.jump]
      go_ret2
      exact ⟨by rw [HV.out]; rfl, HB.out⟩

set_option maxHeartbeats 1000000 in
set_option maxRecDepth 100000 in
theorem isP_any (u : Tk.Tok) (bk : Nat) (kd : Int) (w : World) (hl : bk < w.heap.size) (h : w.cell? ⟨bk, 0, none⟩ = some (.int .i64 kd)) :
    Calls Try.prog 31 #[.agg #[.int .i64 u.1, .string u.2.1, .int .i64 u.2.2], .pointer (some ⟨bk, 0, none⟩)] w (Bo (decide (u.1 = kd)) w) := by
  obtain ⟨W0, hW⟩ : ∃ W0, W0 = w.alloc (.cells #[.int .i64 u.1, .string u.2.1, .int .i64 u.2.2] 31) := ⟨_, rfl⟩
  have hb0 : Below w.heap.size w W0 := by rw [hW]; exact (Below.refl _ _).alloc (Nat.le_refl _) _
  have k0 : W0.heap[w.heap.size]? = some (.cells #[.int .i64 u.1, .string u.2.1, .int .i64 u.2.2] 31 (0, 0)) := by rw [hW]; exact heap_alloc_new w _
  obtain ⟨p0, p1, p2⟩ := tok3_cells k0
  have q0 := cell_kept hb0 hl h
  have HB0 := Lib.hid hb0
  have HW := Lib.hid hW.symm
  clear hb0 k0 hW h
  by_cases hk : u.1 = kd
  · have HV : Hid (decide (u.1 = kd) = true) := Lib.hid (decide_eq_true hk)
    rw [hk] at p0
    clear hk
    go_enter Try.func31, Try.ntmps31
    go_upto_region 1 with fail
    rw [HW.out]
    clear HW
    go_wp2_with fail
    go_ret
    exact ⟨by rw [HV.out]; rfl, HB0.out⟩
  · have HV : Hid (decide (u.1 = kd) = false) := Lib.hid (decide_eq_false hk)
    have e : (u.1 == kd) = false := beq_false_of_ne hk
    clear hk
    go_enter Try.func31, Try.ntmps31
    go_upto_region 1 with fail
    rw [HW.out]
    clear HW
    go_wp2_with fail
    go_ret
    exact ⟨by rw [HV.out]; rfl, HB0.out⟩
set_option maxHeartbeats 4000000 in
set_option maxRecDepth 100000 in
theorem findP_any (ts : List Tk.Tok) (hm : ts.length ≤ 1000) (A C : Option Addr) (ca cc : Nat) (fr tz : Nat) (hfr : fr ≤ ts.length) (htz : tz ≤ ts.length) (kd : Int) (bk : Nat) (w : World) (hl : bk < w.heap.size) (hk : w.cell? ⟨bk, 0, none⟩ = some (.int .i64 kd)) (h : Ts w w.heap.size A ts) (h2 : Bs w w.heap.size .i64 C (Ns.ends ts)) :
    Calls Try.prog 30 #[.slice A ts.length ca, .slice C (Ns.ends ts).length cc, .int .i64 fr, .int .i64 tz, .func (Fn.func 31) #[] #[.pointer (some ⟨bk, 0, none⟩)]] w (Fd (Ns.fnd (Ns.isK ts kd) (Ns.plc (Ns.ends ts) tz fr)) w) := by
  have hel := Ns.ends_len ts
  have HF : Hid (∀ (x : Nat) (W : World), x < ts.length → Below w.heap.size w W → Calls Try.prog 34 #[.slice A ts.length ca, .slice C (Ns.ends ts).length cc, .int .i64 x] W (Bo true W)) := Lib.hid fun x W hx hb => fits_any ts hm A C ca cc x hx W (h.next hb) (h2.next hb)
  have HI : Hid (∀ (x : Nat) (W : World), Below w.heap.size w W → Calls Try.prog 31 #[.agg #[.int .i64 (Tk.tk ts x).1, .string (Tk.tk ts x).2.1, .int .i64 (Tk.tk ts x).2.2], .pointer (some ⟨bk, 0, none⟩)] W (Bo (decide ((Tk.tk ts x).1 = kd)) W)) := Lib.hid fun x W hb => isP_any _ bk kd W (Nat.lt_of_lt_of_le hl hb.size) (cell_kept hb hl hk)
  have HK : Hid (∀ (x : Nat) (W : World), x < ts.length → Below w.heap.size w W → Calls Try.prog 22 #[.slice C (Ns.ends ts).length cc, .int .i64 x] W (Nu ((Ns.sk (Ns.ends ts) x : Nat) : Int) W)) := Lib.hid fun x W hx hb => by
    rw [Ns.sk_eq]; exact skipC _ (Ns.ends_fit (by omega)) (Ns.ends_lead ts) C cc x (by omega) W (h2.next hb)
  have H := Lib.hid h
  have HL : Hid (∀ x, x < ts.length → Ns.sk (Ns.ends ts) x ≤ ts.length) := Lib.hid fun x hx => by
    have := Ns.sk_le (es := Ns.ends ts) (a := x) (by omega)
    omega
  clear h h2 hl hk hel
  go_enter Try.func30, Try.ntmps30
  go_wp2_with fail
  refine wp_scope_jumps 0 (fun a' wr => FindJ ts (.slice A ts.length ca) (.slice C (Ns.ends ts).length cc) fr tz kd (.func (Fn.func 31) #[] #[.pointer (some ⟨bk, 0, none⟩)]) w a' wr) (fun a' _ => tz - atOf a') rfl ?_ ?_
  · go_wp2_with fail
    try go_step3
    have HN : Hid (Ns.fnd (Ns.isK ts kd) (Ns.plc (Ns.ends ts) tz fr) = Ns.fnd (Ns.isK ts kd) (Ns.plc (Ns.ends ts) tz fr)) := Lib.hid rfl
    have HB := Lib.hid (Below.refl w.heap.size w)
    by_cases hlt : fr < tz
    · have hxl : fr < ts.length := by omega
      obtain ⟨bb, off, rfl, hbb, hp⟩ := H.out.next HB.out (by omega)
      obtain ⟨p0, p1, p2⟩ := hp fr hxl
      have CF := Lib.hid (HF.out fr _ hxl HB.out)
      have CI := Lib.hid (HI.out fr)
      have hsl := HL.out fr hxl
      have hgt := Ns.sk_gt (Ns.ends ts) fr
      have d1 : decide (tz ≤ fr) = false := decide_eq_false (by omega)
      clear hp HF HI HL
      by_cases hy : (Tk.tk ts fr).1 = kd
      · have HV : Hid (Ns.fnd (Ns.isK ts kd) (Ns.plc (Ns.ends ts) tz fr) = fr) := Lib.hid (by rw [HN.out, Ns.plc_on hlt, Ns.fnd, if_pos (show Ns.isK ts kd fr = true from decide_eq_true hy)])
        rw [decide_eq_true hy] at CI
        clear hy HN HK hsl hgt
        generalize Tk.tk ts fr = u at *
        go_wp2_with (first | (go_at_call 34; ((with_reducible refine (CF.out).mono ?_); rintro e w1 ⟨rfl, b1⟩; have HB1 := Lib.hid (below_next HB.out b1); have r0 := (b1.cell (p := ⟨bb, off + fr * 3, none⟩) hbb).trans p0; have r1 := (b1.cell (p := ⟨bb, off + fr * 3 + 1, none⟩) hbb).trans p1; have r2 := (b1.cell (p := ⟨bb, off + fr * 3 + 2, none⟩) hbb).trans p2; clear b1)) | (go_at_call 31; ((with_reducible refine (CI.out _ HB1.out).mono ?_); rintro e w2 ⟨rfl, b2⟩; have HB2 := Lib.hid (below_next HB1.out b2); clear b2 r0 r1 r2)))
        simp only [Exit.jump]
        go_ret2
        exact ⟨by rw [HV.out]; rfl, HB2.out⟩
      · have HV : Hid (Ns.fnd (Ns.isK ts kd) (Ns.plc (Ns.ends ts) tz fr) = Ns.fnd (Ns.isK ts kd) (Ns.plc (Ns.ends ts) tz (Ns.sk (Ns.ends ts) fr))) := Lib.hid (by rw [HN.out, Ns.plc_on hlt, Ns.fnd, if_neg (fun (c : Ns.isK ts kd fr = true) => hy (of_decide_eq_true c))])
        have CK := Lib.hid (fun W hb => HK.out fr W hxl hb)
        rw [decide_eq_false hy] at CI
        clear hy HN HK
        generalize Tk.tk ts fr = u at *
        go_wp2_with (first | (go_at_call 34; ((with_reducible refine (CF.out).mono ?_); rintro e w1 ⟨rfl, b1⟩; have HB1 := Lib.hid (below_next HB.out b1); have r0 := (b1.cell (p := ⟨bb, off + fr * 3, none⟩) hbb).trans p0; have r1 := (b1.cell (p := ⟨bb, off + fr * 3 + 1, none⟩) hbb).trans p1; have r2 := (b1.cell (p := ⟨bb, off + fr * 3 + 2, none⟩) hbb).trans p2; clear b1)) | (go_at_call 31; ((with_reducible refine (CI.out _ HB1.out).mono ?_); rintro e w2 ⟨rfl, b2⟩; have HB2 := Lib.hid (below_next HB1.out b2); clear b2 r0 r1 r2)) | (go_at_call 22; ((with_reducible refine (CK.out _ HB2.out).mono ?_); rintro e w3 ⟨rfl, b3⟩; have HB3 := Lib.hid (below_next HB2.out b3); clear b3)))
        go_step3
        exact ⟨rfl, ⟨_, _, _, _, _, _, _, _, _, _, _, _, _, _, _, _, _, _, _, _, _, _, _, _, _, _, _, rfl, hsl, HV, HB3⟩⟩
    · have HV : Hid (Ns.fnd (Ns.isK ts kd) (Ns.plc (Ns.ends ts) tz fr) = -1) := Lib.hid (by rw [HN.out, Ns.plc_end hlt]; rfl)
      have d1 : decide (tz ≤ fr) = true := decide_eq_true (by omega)
      clear HF HI HL HN HK H
      go_wp2_with fail
      simp only [Exit.jump]
      go_ret2
      exact ⟨by rw [HV.out]; rfl, HB.out⟩
  · rintro a' wr ⟨x, u5, u6, u7, u8, u9, u10, u11, u13, u14, u15, u16, u17, u18, u19, u20, u21, u22, u23, u24, u25, u26, u27, u28, u29, u30, u31, rfl, hx, HN, HB⟩
    by_cases hlt : x < tz
    · have hxl : x < ts.length := by omega
      obtain ⟨bb, off, rfl, hbb, hp⟩ := H.out.next HB.out (by omega)
      obtain ⟨p0, p1, p2⟩ := hp x hxl
      have CF := Lib.hid (HF.out x _ hxl HB.out)
      have CI := Lib.hid (HI.out x)
      have hsl := HL.out x hxl
      have hgt := Ns.sk_gt (Ns.ends ts) x
      have d1 : decide (tz ≤ x) = false := decide_eq_false (by omega)
      clear hp HF HI HL
      by_cases hy : (Tk.tk ts x).1 = kd
      · have HV : Hid (Ns.fnd (Ns.isK ts kd) (Ns.plc (Ns.ends ts) tz fr) = x) := Lib.hid (by rw [HN.out, Ns.plc_on hlt, Ns.fnd, if_pos (show Ns.isK ts kd x = true from decide_eq_true hy)])
        rw [decide_eq_true hy] at CI
        clear hy HN HK hsl hgt
        generalize Tk.tk ts x = u at *
        go_wp2_with (first | (go_at_call 34; ((with_reducible refine (CF.out).mono ?_); rintro e w1 ⟨rfl, b1⟩; have HB1 := Lib.hid (below_next HB.out b1); have r0 := (b1.cell (p := ⟨bb, off + x * 3, none⟩) hbb).trans p0; have r1 := (b1.cell (p := ⟨bb, off + x * 3 + 1, none⟩) hbb).trans p1; have r2 := (b1.cell (p := ⟨bb, off + x * 3 + 2, none⟩) hbb).trans p2; clear b1)) | (go_at_call 31; ((with_reducible refine (CI.out _ HB1.out).mono ?_); rintro e w2 ⟨rfl, b2⟩; have HB2 := Lib.hid (below_next HB1.out b2); clear b2 r0 r1 r2)))
        simp only [Exit.jump]
        go_ret2
        exact ⟨by rw [HV.out]; rfl, HB2.out⟩
      · have HV : Hid (Ns.fnd (Ns.isK ts kd) (Ns.plc (Ns.ends ts) tz fr) = Ns.fnd (Ns.isK ts kd) (Ns.plc (Ns.ends ts) tz (Ns.sk (Ns.ends ts) x))) := Lib.hid (by rw [HN.out, Ns.plc_on hlt, Ns.fnd, if_neg (fun (c : Ns.isK ts kd x = true) => hy (of_decide_eq_true c))])
        have CK := Lib.hid (fun W hb => HK.out x W hxl hb)
        rw [decide_eq_false hy] at CI
        clear hy HN HK
        generalize Tk.tk ts x = u at *
        go_wp2_with (first | (go_at_call 34; ((with_reducible refine (CF.out).mono ?_); rintro e w1 ⟨rfl, b1⟩; have HB1 := Lib.hid (below_next HB.out b1); have r0 := (b1.cell (p := ⟨bb, off + x * 3, none⟩) hbb).trans p0; have r1 := (b1.cell (p := ⟨bb, off + x * 3 + 1, none⟩) hbb).trans p1; have r2 := (b1.cell (p := ⟨bb, off + x * 3 + 2, none⟩) hbb).trans p2; clear b1)) | (go_at_call 31; ((with_reducible refine (CI.out _ HB1.out).mono ?_); rintro e w2 ⟨rfl, b2⟩; have HB2 := Lib.hid (below_next HB1.out b2); clear b2 r0 r1 r2)) | (go_at_call 22; ((with_reducible refine (CK.out _ HB2.out).mono ?_); rintro e w3 ⟨rfl, b3⟩; have HB3 := Lib.hid (below_next HB2.out b3); clear b3)))
        go_step3
        exact ⟨rfl, ⟨_, _, _, _, _, _, _, _, _, _, _, _, _, _, _, _, _, _, _, _, _, _, _, _, _, _, _, rfl, hsl, HV, HB3⟩, by unfold atOf; simp [RowKit.intOf]; omega⟩
    · have HV : Hid (Ns.fnd (Ns.isK ts kd) (Ns.plc (Ns.ends ts) tz fr) = -1) := Lib.hid (by rw [HN.out, Ns.plc_end hlt]; rfl)
      have d1 : decide (tz ≤ x) = true := decide_eq_true (by omega)
      clear HF HI HL HN HK H
      go_wp2_with fail
      simp only [Exit.jump]
      go_ret2
      exact ⟨by rw [HV.out]; rfl, HB.out⟩
end Go.Proofs.Ytpjdaenmfdcjhaa
