/-
  The walk of nest's Split.
-/
import Derived.Test.YtpjdaenmfdcjhaaGai
import Derived.ScopeJumps
import Derived.LoopTactic
import Derived.Test.YtpjdaenmfdcjhaaGah
import Derived.Deep.Cut
import Derived.Deep.CutRange
import Derived.Deep.DeepCutAuto
import Derived.IntWalk
import Derived.Defers
import Derived.Recover
import Derived.Laws.Pointers
namespace Go.Proofs.Ytpjdaenmfdcjhaa
open Go.RowKit

/-- what is found first is the end of the first part -/
theorem Ns.fnd_spl (p : Nat → Bool) (es : List Int) (tz : Nat) : ∀ (m x bg : Nat), tz - x ≤ m → bg ≤ x →
    (Ns.fnd p (Ns.plc es tz x) = -1 ∧ Ns.spl p tz (Ns.plc es tz x) bg = [(bg, tz)]) ∨ ∃ f : Nat, Ns.fnd p (Ns.plc es tz x) = (f : Int) ∧ x ≤ f ∧ f < tz ∧ Ns.spl p tz (Ns.plc es tz x) bg = (bg, f) :: Ns.spl p tz (Ns.plc es tz (Ns.sk es f)) (f + 1)
  | m, x, bg, hm, hb => by
    by_cases h : x < tz
    · rw [Ns.plc_on h]
      by_cases hp : p x = true
      · exact .inr ⟨x, by rw [Ns.fnd, if_pos hp], Nat.le_refl _, h, by rw [Ns.spl, if_pos ⟨hp, hb⟩]⟩
      · rw [Ns.fnd, if_neg hp, Ns.spl, if_neg (fun c => hp c.1)]
        have hg := Ns.sk_gt es x
        match m, hm with
        | 0, hm => omega
        | m + 1, hm =>
          rcases Ns.fnd_spl p es tz m (Ns.sk es x) bg (by omega) (by omega) with h1 | ⟨f, h1, h2, h3⟩
          · exact .inl h1
          · exact .inr ⟨f, h1, by omega, h3⟩
    · rw [Ns.plc_end h]
      exact .inl ⟨rfl, rfl⟩
/-- at Split's label -/
def SplitJ (ts : List Tk.Tok) (S C : Value) (fr tz : Nat) (kd : Int) (w W0 : World) (a' : Act) (wr : World) : Prop :=
  ∃ (x bg : Nat) (v : Value) (pre : List (Nat × Nat)) (u5 u6 u7 u8 u10 u14 u15 u16 u17 u18 u19 u20 u21 u22 u23 u24 u25 u26 u27 u28 u29 u30 u31 u32 u33 u34 u35 u36 u37 u38 u39 u40 u41 u42 u43 u44 u45 u46 u47 u48 u49 u50 u51 u52 u53 u54 u55 u56 u57 u58 u59 : Value), a' = { tmps := #[S, C, .int .i64 fr, .int .i64 tz, .int .i64 kd, u5, u6, u7, u8, .pointer (some ⟨w.heap.size, 0, none⟩), u10, v, .int .i64 bg, .int .i64 x, u14, u15, u16, u17, u18, u19, u20, u21, u22, u23, u24, u25, u26, u27, u28, u29, u30, u31, u32, u33, u34, u35, u36, u37, u38, u39, u40, u41, u42, u43, u44, u45, u46, u47, u48, u49, u50, u51, u52, u53, u54, u55, u56, u57, u58, u59], defers := [] } ∧ x ≤ ts.length ∧ bg ≤ x ∧ bg ≤ tz ∧ pre.length ≤ x ∧ Hid (Ns.spl (Ns.isK ts kd) tz (Ns.plc (Ns.ends ts) tz fr) fr = pre ++ Ns.spl (Ns.isK ts kd) tz (Ns.plc (Ns.ends ts) tz x) bg) ∧ Hid (Ow 39 2 W0 v pre.length (prC pre) wr)
/-- the place that the frame holds -/
def at13 (a : Act) : Nat := (RowKit.intOf (a.tmps.getD 13 undef)).toNat

set_option maxHeartbeats 8000000 in
set_option maxRecDepth 100000 in
theorem nsplit_some (ts : List Tk.Tok) (hm : ts.length ≤ 1000) (A C : Option Addr) (ca cc : Nat) (fr tz : Nat) (hft : fr ≤ tz) (htz : tz ≤ ts.length) (kd : Int) (w : World) (h : Ts w w.heap.size A ts) (h2 : Bs w w.heap.size .i64 C (Ns.ends ts)) :
    Calls Try.prog 17 #[.slice A ts.length ca, .slice C ts.length cc, .int .i64 fr, .int .i64 tz, .int .i64 kd] w (ToldP (Ns.spl (Ns.isK ts kd) tz (Ns.plc (Ns.ends ts) tz fr) fr) w) := by
  have hmf : ∀ (fn : Fn) (first cap : Array Value) (w : World), (Instr.makeFunc fn first cap).run Try.prog w = .ok (.func fn first cap) w := fun _ _ _ _ => rfl
  have hel := Ns.ends_len ts
  obtain ⟨W0, hW⟩ : ∃ W0, W0 = w.alloc (.cells #[.int .i64 kd] 3) := ⟨_, rfl⟩
  have hb0 : Below w.heap.size w W0 := by rw [hW]; exact (Below.refl _ _).alloc (Nat.le_refl _) _
  have k0 : W0.heap[w.heap.size]? = some (.cells #[.int .i64 kd] 3 (0, 0)) := by rw [hW]; exact heap_alloc_new w _
  have c0 : W0.cell? ⟨w.heap.size, 0, none⟩ = some (.int .i64 kd) := by simp [World.cell?, k0]
  have hz0 : w.heap.size < W0.heap.size := by rw [hW]; simp
  have CI : Hid (∀ W, Calls Try.prog 29 #[.slice A ts.length ca, .int .i64 fr, .int .i64 tz] W fun e w' => e = .returned (.bool true) ∧ W = w') := Lib.hid fun W => by
    have := within_any ts A ca fr tz W
    rwa [show decide (Ns.okp ts fr tz) = true from decide_eq_true ⟨by omega, by omega, by omega⟩] at this
  have HF : Hid (∀ (x : Nat) (W : World), x ≤ ts.length → Below W0.heap.size W0 W → Calls Try.prog 30 #[.slice A ts.length ca, .slice C ts.length cc, .int .i64 x, .int .i64 tz, .func (Fn.func 31) #[] #[.pointer (some ⟨w.heap.size, 0, none⟩)]] W (Fd (Ns.fnd (Ns.isK ts kd) (Ns.plc (Ns.ends ts) tz x)) W)) := Lib.hid fun x W hx hb => by
    have := findP_any ts hm A C ca cc x tz hx htz kd w.heap.size W (Nat.lt_of_lt_of_le hz0 hb.size) (cell_kept hb hz0 c0) (h.next (below_next hb0 hb)) (h2.next (below_next hb0 hb))
    rwa [hel] at this
  have HK : Hid (∀ (x : Nat) (W : World), x < ts.length → Below W0.heap.size W0 W → Calls Try.prog 22 #[.slice C ts.length cc, .int .i64 x] W (Nu ((Ns.sk (Ns.ends ts) x : Nat) : Int) W)) := Lib.hid fun x W hx hb => by
    have := skipC _ (Ns.ends_fit (ts := ts) (by omega)) (Ns.ends_lead ts) C cc x (by omega) W (h2.next (below_next hb0 hb))
    rw [hel] at this
    rw [Ns.sk_eq]; exact this
  have HL : Hid (∀ x, x < ts.length → Ns.sk (Ns.ends ts) x ≤ ts.length) := Lib.hid fun x hx => by
    have := Ns.sk_le (es := Ns.ends ts) (a := x) (by omega)
    omega
  have HB0 := Lib.hid hb0
  have HW := Lib.hid hW.symm
  clear h h2 hel hb0 k0 c0 hz0 hW
  go_enter Try.func17, Try.ntmps17
  go_upto_region 1 with fail
  rw [HW.out]
  clear HW
  go_wp2_with fail
  refine wp_scope_jumps 0 (fun a' wr => SplitJ ts (.slice A ts.length ca) (.slice C ts.length cc) fr tz kd w W0 a' wr) (fun a' _ => tz - at13 a') rfl ?_ ?_
  · go_wp2_with (go_at_call 29; ((with_reducible refine (CI.out _).mono ?_); rintro e w1 ⟨rfl, rfl⟩))
    try go_step3
    have hfl : fr ≤ ts.length := by omega
    have hbx := Nat.le_refl fr
    obtain ⟨pre, hpre0⟩ : ∃ pre : List (Nat × Nat), pre = [] := ⟨[], rfl⟩
    have HN : Hid (Ns.spl (Ns.isK ts kd) tz (Ns.plc (Ns.ends ts) tz fr) fr = pre ++ Ns.spl (Ns.isK ts kd) tz (Ns.plc (Ns.ends ts) tz fr) fr) := Lib.hid (by rw [hpre0]; rfl)
    have HO : Hid (Ow 39 2 W0 (.slice none 0 0) pre.length (prC pre) W0) := Lib.hid (by rw [hpre0]; exact Ow.start _ _ (Below.refl _ _))
    have hpl : pre.length ≤ fr := by rw [hpre0]; simp
    clear hpre0
    have hp1 : pre.length ≤ 1000000 := by omega
    have CF := Lib.hid (HF.out fr _ hfl HO.out.bel)
    rcases Ns.fnd_spl (Ns.isK ts kd) (Ns.ends ts) tz _ fr fr (Nat.le_refl _) hbx with ⟨h1, h2⟩ | ⟨f, h1, h2, h3, h4⟩
    · have HV : Hid (Ns.spl (Ns.isK ts kd) tz (Ns.plc (Ns.ends ts) tz fr) fr = pre ++ [(fr, tz)]) := Lib.hid (by rw [HN.out, h2])
      rw [h1] at CF
      clear h1 h2 HF HK HL HN
      go_wp2_with (first | (go_at_call 30; ((with_reducible refine (CF.out).mono ?_); rintro e w2 ⟨rfl, b2⟩; have HO2 := Lib.hid (HO.out.next b2); clear b2)) | (at_builtin; refine app_pair rfl _ _ rfl rfl HO2.out fr tz _ _ rfl hp1 ?_; intro v' w3 H3; have HO3 := Lib.hid H3; clear H3))
      simp only [Exit.jump]
      go_ret
      obtain ⟨A9, c9, rfl, hc9⟩ := HO3.out.form
      rw [HV.out]
      exact ⟨A9, c9, rfl, hc9, Bs.of_own2 HO3.out.own, below_next HB0.out HO3.out.bel⟩
    · have HV : Hid (Ns.spl (Ns.isK ts kd) tz (Ns.plc (Ns.ends ts) tz fr) fr = (pre ++ [(fr, f)]) ++ Ns.spl (Ns.isK ts kd) tz (Ns.plc (Ns.ends ts) tz (Ns.sk (Ns.ends ts) f)) (f + 1)) := Lib.hid (by rw [HN.out, h4]; simp)
      have hfl2 : f < ts.length := by omega
      have CK := Lib.hid (fun W hb => HK.out f W hfl2 hb)
      have hsl := HL.out f hfl2
      have hgt := Ns.sk_gt (Ns.ends ts) f
      rw [h1] at CF
      clear h1 h4 HF HK HL HN
      go_wp2_with (first | (go_at_call 30; ((with_reducible refine (CF.out).mono ?_); rintro e w2 ⟨rfl, b2⟩; have HO2 := Lib.hid (HO.out.next b2); clear b2)) | (at_builtin; refine app_pair rfl _ _ rfl rfl HO2.out fr f _ _ rfl hp1 ?_; intro v' w3 H3; have HO3 := Lib.hid H3; clear H3) | (go_at_call 22; ((with_reducible refine (CK.out _ HO3.out.bel).mono ?_); rintro e w4 ⟨rfl, b4⟩; have HO5 := Lib.hid (HO3.out.next b4); clear b4)))
      go_step3
      exact ⟨rfl, ⟨Ns.sk (Ns.ends ts) f, f + 1, _, pre ++ [(fr, f)], _, _, _, _, _, _, _, _, _, _, _, _, _, _, _, _, _, _, _, _, _, _, _, _, _, _, _, _, _, _, _, _, _, _, _, _, _, _, _, _, _, _, _, _, _, _, _, _, _, _, _, rfl, hsl, hgt, by omega, (by rw [List.length_append]; simp only [List.length_singleton]; omega), HV, HO5⟩⟩
  · rintro a' wr ⟨x, bg, v, pre, u5, u6, u7, u8, u10, u14, u15, u16, u17, u18, u19, u20, u21, u22, u23, u24, u25, u26, u27, u28, u29, u30, u31, u32, u33, u34, u35, u36, u37, u38, u39, u40, u41, u42, u43, u44, u45, u46, u47, u48, u49, u50, u51, u52, u53, u54, u55, u56, u57, u58, u59, rfl, hx, hbx, hbt, hpl, HN, HO⟩
    have hp1 : pre.length ≤ 1000000 := by omega
    have CF := Lib.hid (HF.out x _ hx HO.out.bel)
    rcases Ns.fnd_spl (Ns.isK ts kd) (Ns.ends ts) tz _ x bg (Nat.le_refl _) hbx with ⟨h1, h2⟩ | ⟨f, h1, h2, h3, h4⟩
    · have HV : Hid (Ns.spl (Ns.isK ts kd) tz (Ns.plc (Ns.ends ts) tz fr) fr = pre ++ [(bg, tz)]) := Lib.hid (by rw [HN.out, h2])
      rw [h1] at CF
      clear h1 h2 HF HK HL HN
      go_wp2_with (first | (go_at_call 30; ((with_reducible refine (CF.out).mono ?_); rintro e w2 ⟨rfl, b2⟩; have HO2 := Lib.hid (HO.out.next b2); clear b2)) | (at_builtin; refine app_pair rfl _ _ rfl rfl HO2.out bg tz _ _ rfl hp1 ?_; intro v' w3 H3; have HO3 := Lib.hid H3; clear H3))
      simp only [Exit.jump]
      go_ret
      obtain ⟨A9, c9, rfl, hc9⟩ := HO3.out.form
      rw [HV.out]
      exact ⟨A9, c9, rfl, hc9, Bs.of_own2 HO3.out.own, below_next HB0.out HO3.out.bel⟩
    · have HV : Hid (Ns.spl (Ns.isK ts kd) tz (Ns.plc (Ns.ends ts) tz fr) fr = (pre ++ [(bg, f)]) ++ Ns.spl (Ns.isK ts kd) tz (Ns.plc (Ns.ends ts) tz (Ns.sk (Ns.ends ts) f)) (f + 1)) := Lib.hid (by rw [HN.out, h4]; simp)
      have hfl2 : f < ts.length := by omega
      have CK := Lib.hid (fun W hb => HK.out f W hfl2 hb)
      have hsl := HL.out f hfl2
      have hgt := Ns.sk_gt (Ns.ends ts) f
      rw [h1] at CF
      clear h1 h4 HF HK HL HN
      go_wp2_with (first | (go_at_call 30; ((with_reducible refine (CF.out).mono ?_); rintro e w2 ⟨rfl, b2⟩; have HO2 := Lib.hid (HO.out.next b2); clear b2)) | (at_builtin; refine app_pair rfl _ _ rfl rfl HO2.out bg f _ _ rfl hp1 ?_; intro v' w3 H3; have HO3 := Lib.hid H3; clear H3) | (go_at_call 22; ((with_reducible refine (CK.out _ HO3.out.bel).mono ?_); rintro e w4 ⟨rfl, b4⟩; have HO5 := Lib.hid (HO3.out.next b4); clear b4)))
      go_step3
      exact ⟨rfl, ⟨Ns.sk (Ns.ends ts) f, f + 1, _, pre ++ [(bg, f)], _, _, _, _, _, _, _, _, _, _, _, _, _, _, _, _, _, _, _, _, _, _, _, _, _, _, _, _, _, _, _, _, _, _, _, _, _, _, _, _, _, _, _, _, _, _, _, _, _, _, _, rfl, hsl, hgt, by omega, (by rw [List.length_append]; simp only [List.length_singleton]; omega), HV, HO5⟩, by unfold at13; simp [RowKit.intOf]; omega⟩
set_option maxHeartbeats 1000000 in
set_option maxRecDepth 100000 in
theorem splitC : SplitC := by
  intro ts hm A C ca cc hca hcc fr tz kd hfr htz w h h2
  rw [Ns.ends_len]
  by_cases hok : Ns.okp ts fr tz
  · have e : Ns.splR ts fr tz kd = Ns.spl (Ns.isK ts kd) tz.toNat (Ns.plc (Ns.ends ts) tz.toNat fr.toNat) fr.toNat := if_pos hok
    rw [e]
    obtain ⟨o1, o2, o3⟩ := hok
    obtain ⟨f, rfl⟩ : ∃ f : Nat, fr = f := ⟨fr.toNat, by omega⟩
    obtain ⟨t, rfl⟩ : ∃ t : Nat, tz = t := ⟨tz.toNat, by omega⟩
    rw [Int.toNat_natCast, Int.toNat_natCast]
    exact nsplit_some ts hm A C ca cc f t (by omega) (by omega) kd w h h2
  · have HV : Hid (Ns.splR ts fr tz kd = []) := Lib.hid (if_neg hok)
    have CI : Hid (∀ W, Calls Try.prog 29 #[.slice A ts.length ca, .int .i64 fr, .int .i64 tz] W fun e w' => e = .returned (.bool false) ∧ W = w') := Lib.hid fun W => by
      have := within_any ts A ca fr tz W
      rwa [decide_eq_false hok] at this
    obtain ⟨W0, hW⟩ : ∃ W0, W0 = w.alloc (.cells #[.int .i64 kd] 3) := ⟨_, rfl⟩
    have HB0 : Hid (Below w.heap.size w W0) := Lib.hid (by rw [hW]; exact (Below.refl _ _).alloc (Nat.le_refl _) _)
    have HW := Lib.hid hW.symm
    clear h h2 hok hW
    go_enter Try.func17, Try.ntmps17
    go_upto_region 1 with fail
    rw [HW.out]
    clear HW
    go_wp2_with fail
    refine wp_scope_jumps 0 (fun _ _ => False) (fun _ _ => 0) rfl ?_ (fun _ _ h => h.elim)
    go_wp2_with (go_at_call 29; ((with_reducible refine (CI.out _).mono ?_); rintro e w1 ⟨rfl, rfl⟩))
    simp only [Exit.jump]
    go_ret
    rw [HV.out]
    exact ⟨none, 0, rfl, Nat.le_refl _, Bs.nil, HB0.out⟩
end Go.Proofs.Ytpjdaenmfdcjhaa

/-
  The walk of nest's Trim.
-/
namespace Go.Proofs.Ytpjdaenmfdcjhaa
open Go.RowKit

set_option maxHeartbeats 4000000 in
set_option maxRecDepth 100000 in
theorem ntrim_some (ts : List Tk.Tok) (hm : ts.length ≤ 65536) (bb off : Nat) (ca : Nat) (fr tz : Nat) (hft : fr ≤ tz) (hto : tz ≤ ts.length) (w : World) (h : ∀ j, j < ts.length → w.cell? ⟨bb, off + j * 3, none⟩ = some (.int .i64 (Tk.tk ts j).1)) :
    Calls Try.prog 18 #[.slice (some ⟨bb, off, none⟩) ts.length ca, .int .i64 fr, .int .i64 tz] w (Tw (Ns.trA ts tz fr) (Ns.trB ts (Ns.trA ts tz fr) tz) w) := by
  have HP := Lib.hid h
  clear h
  have CI : Hid (∀ W, Calls Try.prog 29 #[.slice (some ⟨bb, off, none⟩) ts.length ca, .int .i64 fr, .int .i64 tz] W fun e w' => e = .returned (.bool true) ∧ W = w') := Lib.hid fun W => by
    have := within_any ts (some ⟨bb, off, none⟩) ca fr tz W
    rwa [show decide (Ns.okp ts fr tz) = true from decide_eq_true ⟨by omega, by omega, by omega⟩] at this
  go_enter Try.func18, Try.ntmps18
  go_wp2_with (go_at_call 29; ((with_reducible refine (CI.out _).mono ?_); rintro e w1 ⟨rfl, rfl⟩))
  go_loopw [1] (fun v1 wr => ∃ a : Nat, v1 = .int .i64 a ∧ a ≤ tz ∧ Hid (Ns.trA ts tz fr = Ns.trA ts tz a) ∧ wr = w) (fun v1 _ => tz - (RowKit.intOf v1).toNat)
  case atStart => exact ⟨fr, rfl, hft, Lib.hid rfl, rfl⟩
  case round =>
    obtain ⟨a, rfl, ha, HT, rfl⟩ := hrel
    by_cases hlt : a < tz
    · have p0 := HP.out a (by omega)
      have hat : a < ts.length := by omega
      by_cases hk : (Tk.tk ts a).1 = 1
      · have HV : Hid (Ns.trA ts tz fr = Ns.trA ts tz (a + 1)) := Lib.hid (by rw [HT.out, Ns.trA_on ⟨hlt, hk⟩])
        rw [hk] at p0
        clear hk HT
        go_wp2_with fail
        go_roundw
        case rel => exact ⟨a + 1, by go_num, by omega, HV, trivial⟩
        case measure => simp [RowKit.intOf]; omega
      · have HE : Hid (Ns.trA ts tz fr = a) := Lib.hid (by rw [HT.out, Ns.trA_end (fun c => hk c.2)])
        have hkb : ((Tk.tk ts a).1 == 1) = false := beq_false_of_ne hk
        clear hk HT
        generalize (Tk.tk ts a).1 = ka at *
        go_wp2_with fail
        clear p0 hkb
        go_loopw [2] (fun v2 wi => ∃ b : Nat, v2 = .int .i64 b ∧ b ≤ tz ∧ Hid (Ns.trB ts a tz = Ns.trB ts a b) ∧ wi = wr) (fun v2 _ => (RowKit.intOf v2).toNat)
        case atStart => exact ⟨tz, rfl, Nat.le_refl _, Lib.hid rfl, rfl⟩
        case round =>
          obtain ⟨b, rfl, hb, HU, rfl⟩ := hrel
          by_cases hab : a < b
          · obtain ⟨m, rfl⟩ : ∃ m, b = m + 1 := ⟨b - 1, by omega⟩
            have p1 := HP.out m (by omega)
            have hbt : m < ts.length := by omega
            by_cases hk1 : (Tk.tk ts m).1 = 1
            · have HV : Hid (Ns.trB ts a tz = Ns.trB ts a m) := Lib.hid (by rw [HU.out, Ns.trB_on ⟨by omega, hk1⟩])
              rw [hk1] at p1
              clear hk1 HU
              go_wp2_with fail
              go_roundw
              case rel => exact ⟨m, by first | rfl | go_num, by omega, HV, trivial⟩
              case measure => simp [RowKit.intOf]; try omega
            · have HV : Hid (Ns.trB ts a tz = m + 1) := Lib.hid (by rw [HU.out, Ns.trB_end (fun c => hk1 c.2)])
              have hkb : ((Tk.tk ts m).1 == 1) = false := beq_false_of_ne hk1
              clear hk1 HU
              generalize (Tk.tk ts m).1 = kb at *
              go_wp2_with fail
              go_ret2
              exact ⟨by rw [HE.out, HV.out]; try rfl, Below.refl _ _⟩
          · have HV : Hid (Ns.trB ts a tz = b) := Lib.hid (by rw [HU.out, Ns.trB_low (by omega)])
            clear HU
            go_wp2_with fail
            go_ret2
            exact ⟨by rw [HE.out, HV.out]; try rfl, Below.refl _ _⟩
    · have HE : Hid (Ns.trA ts tz fr = a) := Lib.hid (by rw [HT.out, Ns.trA_end (fun c => hlt c.1)])
      clear HT
      go_wp2_with fail
      go_loopw [2] (fun v2 wi => ∃ b : Nat, v2 = .int .i64 b ∧ b ≤ tz ∧ Hid (Ns.trB ts a tz = Ns.trB ts a b) ∧ wi = wr) (fun v2 _ => (RowKit.intOf v2).toNat)
      case atStart => exact ⟨tz, rfl, Nat.le_refl _, Lib.hid rfl, rfl⟩
      case round =>
        obtain ⟨b, rfl, hb, HU, rfl⟩ := hrel
        by_cases hab : a < b
        · omega
        · have HV : Hid (Ns.trB ts a tz = b) := Lib.hid (by rw [HU.out, Ns.trB_low (by omega)])
          clear HU
          go_wp2_with fail
          go_ret2
          exact ⟨by rw [HE.out, HV.out]; try rfl, Below.refl _ _⟩
set_option maxHeartbeats 1000000 in
set_option maxRecDepth 100000 in
theorem ntrim_nil (A : Option Addr) (ca : Nat) (w : World) :
    Calls Try.prog 18 #[.slice A 0 ca, .int .i64 0, .int .i64 0] w (Tw 0 0 w) := by
  have CI : Hid (∀ W, Calls Try.prog 29 #[.slice A 0 ca, .int .i64 0, .int .i64 0] W fun e w' => e = .returned (.bool true) ∧ W = w') := Lib.hid fun W => within_any [] A ca 0 0 W
  go_enter Try.func18, Try.ntmps18
  go_wp2_with (go_at_call 29; ((with_reducible refine (CI.out _).mono ?_); rintro e w1 ⟨rfl, rfl⟩))
  go_loopw [1] (fun v1 wr => v1 = .int .i64 0 ∧ wr = w) (fun _ _ => 0)
  case atStart => exact ⟨rfl, rfl⟩
  case round =>
    obtain ⟨rfl, rfl⟩ := hrel
    go_wp2_with fail
    go_loopw [2] (fun v2 wi => v2 = .int .i64 0 ∧ wi = wr) (fun _ _ => 0)
    case atStart => exact ⟨rfl, rfl⟩
    case round =>
      obtain ⟨rfl, rfl⟩ := hrel
      go_wp2_with fail
      go_ret2
      exact ⟨rfl, Below.refl _ _⟩
theorem ntrim_any (ts : List Tk.Tok) (hm : ts.length ≤ 65536) (A : Option Addr) (ca : Nat) (fr tz : Nat) (hft : fr ≤ tz) (hto : tz ≤ ts.length) (w : World) (h : Ts w w.heap.size A ts) :
    Calls Try.prog 18 #[.slice A ts.length ca, .int .i64 fr, .int .i64 tz] w (Tw (Ns.trA ts tz fr) (Ns.trB ts (Ns.trA ts tz fr) tz) w) := by
  by_cases h0 : 0 < ts.length
  · obtain ⟨bb, off, rfl, _, hp⟩ := h h0
    exact ntrim_some ts hm bb off ca fr tz hft hto w fun j hj => (hp j hj).1
  · obtain rfl : tz = 0 := by omega
    obtain rfl : fr = 0 := by omega
    have e : ts.length = 0 := by omega
    rw [e, Ns.trA_end (fun c => by omega)]
    exact ntrim_nil A ca w
theorem trimC : TrimC := by
  intro ts hm A ca hca fr tz hfr htz w h
  by_cases hok : Ns.okp ts fr tz
  · have e : Ns.trR ts fr tz = (((Ns.trA ts tz.toNat fr.toNat : Nat) : Int), ((Ns.trB ts (Ns.trA ts tz.toNat fr.toNat) tz.toNat : Nat) : Int)) := if_pos hok
    rw [e]
    obtain ⟨o1, o2, o3⟩ := hok
    obtain ⟨f, rfl⟩ : ∃ f : Nat, fr = f := ⟨fr.toNat, by omega⟩
    obtain ⟨t, rfl⟩ : ∃ t : Nat, tz = t := ⟨tz.toNat, by omega⟩
    rw [Int.toNat_natCast, Int.toNat_natCast]
    exact ntrim_any ts (by omega) A ca f t (by omega) (by omega) w h
  · have e : Ns.trR ts fr tz = (fr, tz) := if_neg hok
    rw [e]
    have CI : Hid (∀ W, Calls Try.prog 29 #[.slice A ts.length ca, .int .i64 fr, .int .i64 tz] W fun e w' => e = .returned (.bool false) ∧ W = w') := Lib.hid fun W => by
      have := within_any ts A ca fr tz W
      rwa [decide_eq_false hok] at this
    clear h hok e
    go_enter Try.func18, Try.ntmps18
    go_wp2_with (go_at_call 29; ((with_reducible refine (CI.out _).mono ?_); rintro e w1 ⟨rfl, rfl⟩))
    go_ret2
    exact ⟨rfl, Below.refl _ _⟩
end Go.Proofs.Ytpjdaenmfdcjhaa

/-
  The walk of nest's Find, with the law's own closure; it defers a closure that recovers.
-/
namespace Go.Proofs.Ytpjdaenmfdcjhaa
open Go.RowKit

theorem catch_idle (p : Addr) (w : World) :
    CallsD Try.prog 28 #[.pointer (some p)] .returning w fun e u' w' => e = .returned (.tuple #[]) ∧ u' = .returning ∧ w' = w := by
  refine callsD_of_wpS Try.func28 rfl fun c₀ cs hu => ?_
  apply wpS_seq
  apply wpS_region
  simp [wpOpsS, go_sem, recoverD, hu, Try.ntmps28, Exit.thenS]
  refine wpS_cond (t := false) (by simp [Act.eval, Array.replicate]) ?_
  simp only [Bool.false_eq_true, if_false]
  refine wpS_of_wp (wp_skip ?_)
  cases c₀
  simp_all [bodyPostS, results, Try.results28]
set_option maxHeartbeats 4000000 in
set_option maxRecDepth 100000 in
theorem findC : FindC := by
  intro ts hm A C ca cc hca hcc fr tz kd hfr htz bk w hl hk h h2
  have hmf : ∀ (fn : Fn) (first cap : Array Value) (w : World), (Instr.makeFunc fn first cap).run Try.prog w = .ok (.func fn first cap) w := fun _ _ _ _ => rfl
  obtain ⟨W0, hW⟩ : ∃ W0, W0 = w.alloc (.cells #[.int .i64 0] 3) := ⟨_, rfl⟩
  have hb0 : Below w.heap.size w W0 := by rw [hW]; exact (Below.refl _ _).alloc (Nat.le_refl _) _
  have k0 : W0.heap[w.heap.size]? = some (.cells #[.int .i64 0] 3 (0, 0)) := by rw [hW]; exact heap_alloc_new w _
  have hel := Ns.ends_len ts
  have CI : Hid (Calls Try.prog 29 #[.slice A ts.length ca, .int .i64 fr, .int .i64 tz] W0 fun e w' => e = .returned (.bool (decide (Ns.okp ts fr tz))) ∧ W0 = w') := Lib.hid (within_any ts A ca fr tz W0)
  have HB0 := Lib.hid hb0
  have HW := Lib.hid hW.symm
  rw [hel]
  by_cases hok : Ns.okp ts fr tz
  · have HV : Hid (Ns.fndR ts fr tz kd = Ns.fnd (Ns.isK ts kd) (Ns.plc (Ns.ends ts) tz.toNat fr.toNat)) := Lib.hid (if_pos hok)
    rw [decide_eq_true hok] at CI
    obtain ⟨o1, o2, o3⟩ := hok
    obtain ⟨f, rfl⟩ : ∃ f : Nat, fr = f := ⟨fr.toNat, by omega⟩
    obtain ⟨t, rfl⟩ : ∃ t : Nat, tz = t := ⟨tz.toNat, by omega⟩
    rw [Int.toNat_natCast, Int.toNat_natCast] at HV
    have CF := findL_any ts hm A C ca cc f t (by omega) (by omega) kd bk W0 (Nat.lt_of_lt_of_le hl hb0.size) (cell_kept hb0 hl hk) (h.next hb0) (h2.next hb0)
    rw [hel] at CF
    have CF2 := Lib.hid CF
    clear CF
    have HK0 := Lib.hid k0
    have hz0 : w.heap.size < W0.heap.size := by rw [hW]; simp
    clear hb0 k0 hW h h2 hk o1 o2 o3 hcc hel
    generalize Ns.fnd (Ns.isK ts kd) (Ns.plc (Ns.ends ts) t f) = n at *
    go_enter_defers Try.func16, Try.ntmps16
    go_upto_region 1 with fail
    rw [HW.out]
    clear HW
    go_wp2_with (first | (go_at_call 29; ((with_reducible refine (CI.out).mono ?_); rintro e w1 ⟨rfl, rfl⟩)) | (go_at_call 30; ((with_reducible refine (CF2.out).mono ?_); rintro e w1 ⟨rfl, b1⟩; have hk1 := below_block b1 HK0.out; obtain ⟨c1, z1⟩ : w1.cell? ⟨w.heap.size, 0, none⟩ = some (.int .i64 0) ∧ w1.frozen? ⟨w.heap.size, 0, none⟩ = false := ⟨by simp [World.cell?, hk1], by simp [World.frozen?, hk1]⟩; have HB1 := Lib.hid (below_next HB0.out b1); clear b1 hk1)))
    refine leaves_cons (f := 28) (args := #[.pointer (some ⟨w.heap.size, 0, none⟩)]) (by simp) (by simp [go_sem]) ?_
    refine (catch_idle ⟨w.heap.size, 0, none⟩ _).mono ?_
    rintro e u' w'' ⟨rfl, rfl, rfl⟩
    have e2 : ((w1.setCell ⟨w.heap.size, 0, none⟩ (.int .i64 n)).setCell ⟨w.heap.size, 0, none⟩ (.int .i64 n)).cell? ⟨w.heap.size, 0, none⟩ = some (.int .i64 n) := World.cell?_setCell_same _ _ _ (World.cell?_setCell_same _ _ _ c1)
    refine ⟨.int .i64 n, ?_, by rw [HV.out], (HB1.out.setCell (Nat.le_refl _) _).setCell (Nat.le_refl _) _⟩
    generalize (w1.setCell ⟨w.heap.size, 0, none⟩ (.int .i64 n)).setCell ⟨w.heap.size, 0, none⟩ (.int .i64 n) = W at *
    simp [results, Try.results16, go_sem, e2]
  · have HV : Hid (Ns.fndR ts fr tz kd = -1) := Lib.hid (if_neg hok)
    rw [decide_eq_false hok] at CI
    have c0 : W0.cell? ⟨w.heap.size, 0, none⟩ = some (.int .i64 0) := by simp [World.cell?, k0]
    have z0 : W0.frozen? ⟨w.heap.size, 0, none⟩ = false := by simp [World.frozen?, k0]
    clear hb0 k0 hW h h2 hk hok hel
    go_enter_defers Try.func16, Try.ntmps16
    go_upto_region 1 with fail
    rw [HW.out]
    clear HW
    go_wp2_with (first | (go_at_call 29; ((with_reducible refine (CI.out).mono ?_); rintro e w1 ⟨rfl, rfl⟩)))
    refine leaves_cons (f := 28) (args := #[.pointer (some ⟨w.heap.size, 0, none⟩)]) (by simp) (by simp [go_sem]) ?_
    refine (catch_idle ⟨w.heap.size, 0, none⟩ _).mono ?_
    rintro e u' w'' ⟨rfl, rfl, rfl⟩
    have e2 : (W0.setCell ⟨w.heap.size, 0, none⟩ (.int .i64 (-1))).cell? ⟨w.heap.size, 0, none⟩ = some (.int .i64 (-1)) := World.cell?_setCell_same _ _ _ c0
    refine ⟨.int .i64 (-1), ?_, by rw [HV.out], HB0.out.setCell (Nat.le_refl _) _⟩
    generalize W0.setCell ⟨w.heap.size, 0, none⟩ (.int .i64 (-1)) = W at *
    simp [results, Try.results16, go_sem, e2]
end Go.Proofs.Ytpjdaenmfdcjhaa
