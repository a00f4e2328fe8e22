/-
  The walk of nest's Ends.
-/
import Derived.Test.YtpjdaenmfdcjhaaGae
import Derived.Test.YtpjdaenmfdcjhaaGaf
import Derived.ScopeJumps
import Derived.LoopTactic
import Derived.IntWalk
import Derived.Deep.DeepCutAuto
namespace Go.Proofs.Ytpjdaenmfdcjhaa
open Go.RowKit

/-- at Ends' label -/
def EndsJ (ts : List Tk.Tok) (A : Option Addr) (cap : Nat) (w : World) (a' : Act) (wr : World) : Prop :=
  ∃ (k : Nat) (v : Value) (u1 u2 u3 u7 u8 u9 u10 u11 u12 u13 u14 u15 u16 u17 u18 u19 u20 u21 u22 u23 u24 u25 u26 u27 u28 u29 u30 u31 u32 u33 u34 u35 u36 u37 u38 u39 u40 u41 u42 u43 u44 u45 u46 u47 u48 u49 u50 u51 u52 u53 u54 u55 u56 u57 u58 u59 u60 u61 u62 u63 u64 u65 u66 u67 : Value), a' = { tmps := #[.slice A ts.length cap, u1, u2, u3, .slice (some ⟨w.heap.size, 0, none⟩) ts.length ts.length, v, .int .i64 k, u7, u8, u9, u10, u11, u12, u13, u14, u15, u16, u17, u18, u19, u20, u21, u22, u23, u24, u25, u26, u27, u28, u29, u30, u31, u32, u33, u34, u35, u36, u37, u38, u39, u40, u41, u42, u43, u44, u45, u46, u47, u48, u49, u50, u51, u52, u53, u54, u55, u56, u57, u58, u59, u60, u61, u62, u63, u64, u65, u66, u67], defers := [] } ∧ k ≤ ts.length ∧ Hid (En (w.heap.size + 1) w.heap.size w (Ns.enZ ts k) v (Ns.ni (Ns.opn ts k)) wr) ∧ Hid (∀ j, j ≤ k → (Ns.opn ts j).length ≤ 64)
/-- the place that the frame holds -/
def at6 (a : Act) : Nat := (RowKit.intOf (a.tmps.getD 6 undef)).toNat
theorem shuts_iff {ts : List Tk.Tok} {k : Nat} (hn : Ns.opn ts k ≠ []) : Ns.shuts (Tk.tk ts k) (Tk.tk ts (Ns.top (Ns.opn ts k))) ↔ Ns.closes ts (Ns.opn ts k) k := ⟨fun h => ⟨h.1, hn, h.2⟩, fun h => ⟨h.1, h.2.2⟩⟩

set_option maxHeartbeats 8000000 in
set_option maxRecDepth 100000 in
theorem nends_code (ts : List Tk.Tok) (hm : ts.length ≤ 1000) (A : Option Addr) (cap : Nat) (w : World) (h : Ts w w.heap.size A ts) :
    Calls Try.prog 12 #[.slice A ts.length cap] w (EndsIs ts w) := by
  have hmk := run_make_row' (P := Try.prog) 25 3 (.int .i64 0) 8 Try.underlying25 Try.info3 rfl .i64 .i64 ts.length (by omega) (by omega)
  have HT := Lib.hid h
  obtain ⟨W0, hW⟩ : ∃ W0, W0 = w.alloc (.cells (madeCells #[.int .i64 0] ts.length) 3) := ⟨_, rfl⟩
  have HE0 : Hid (En (w.heap.size + 1) w.heap.size w (Ns.enZ ts 0) (.slice none 0 0) (Ns.ni (Ns.opn ts 0)) W0) := Lib.hid (by
    rw [hW]
    refine ⟨World.ownsRow_nil _ _ _ _, ?_, (Below.refl _ _).alloc (Nat.le_refl _) _, Nat.le_refl _, Nat.lt_succ_self _, by simp⟩
    rw [show Ns.enZ ts 0 = List.replicate ts.length 0 from rfl, ← made_zero]
    exact heap_alloc_new w _)
  have HW := Lib.hid hW.symm
  clear h hW
  go_enter Try.func12, Try.ntmps12
  go_wp2_with fail
  refine wp_scope_jumps 0 (fun a' wr => EndsJ ts A cap w a' wr) (fun a' _ => ts.length - at6 a') rfl ?_ ?_
  · go_upto_region 2 with fail
    rw [HW.out]
    clear HW hmk
    go_wp2_with fail
    try go_step3
    have hk0 : 0 ≤ ts.length := Nat.zero_le _
    have HD : Hid (∀ j, j ≤ 0 → (Ns.opn ts j).length ≤ 64) := Lib.hid fun j hj => by obtain rfl : j = 0 := by omega
                                                                                     exact Nat.zero_le _
    by_cases hlt : 0 < ts.length
    · have hcell := HE0.out.cell (j := 0) (by rw [Ns.enZ_len hk0]; exact hlt)
      have hfree := HE0.out.free 0
      obtain ⟨W1, hW1⟩ : ∃ W1, W1 = W0.setCell ⟨w.heap.size, 0, none⟩ (.int .i64 (-1)) := ⟨_, rfl⟩
      have HE1 : Hid (En (w.heap.size + 1) w.heap.size w ((Ns.enZ ts 0).set 0 (-1)) (.slice none 0 0) (Ns.ni (Ns.opn ts 0)) W1) := Lib.hid (by rw [hW1]; exact HE0.out.set_ 0 (-1))
      have HW1 := Lib.hid hW1.symm
      obtain ⟨bb, off, rfl, hbb, hp⟩ := (HT.out.next HE1.out.bel) (by omega)
      obtain ⟨p0, p1, p2⟩ := hp 0 hlt
      have HP := Lib.hid hp
      have CC : Hid (∀ W, Calls Try.prog 26 #[.agg #[.int .i64 (Tk.tk ts 0).1, .string (Tk.tk ts 0).2.1, .int .i64 (Tk.tk ts 0).2.2]] W (Sg (Ns.clo (Tk.tk ts 0)) W)) := Lib.hid fun W => closing_any _ _ _ W
      have hol := Ns.opn_len ts 0
      have hnl := Ns.ni_len (Ns.opn ts 0)
      have hne : (0 == ts.length) = false := beq_false_of_ne (by omega)
      have hne2 : (((0 : Nat) : Int) == (ts.length : Int)) = false := beq_false_of_ne (by omega)
      have hzl := Ns.enZ_len (ts := ts) (k := 0) hk0
      have hd0 := HD.out 0 (Nat.le_refl _)
      clear hp hW1
      simp only [Nat.zero_mul, Nat.add_zero] at p0 p1 p2
      go_upto_region 7 with fail
      rw [HW1.out]
      clear HW1 hcell hfree
      by_cases hO : Ns.isO (Tk.tk ts 0)
      · have he := Ns.empty_f hO
        have HN : Hid (Ns.ni (Ns.opn ts 1) = Ns.ni (Ns.opn ts 0) ++ [((0 : Nat) : Int)]) := Lib.hid (by rw [show 1 = 0 + 1 from rfl, Ns.opn_push hO, Ns.ni_app]; rfl)
        have HZ := Lib.hid (Ns.enZ_push hlt hO)
        have hpl : (Ns.opn ts 1).length = (Ns.opn ts 0).length + 1 := by rw [show 1 = 0 + 1 from rfl, Ns.opn_push hO]; simp
        have HV := HZ.out
        have e64 : ((Ns.ni (Ns.opn ts 0)).length == 64) = false := beq_false_of_ne (by omega)
        have e64i : (((Ns.ni (Ns.opn ts 0)).length : Int) == 64) = false := beq_false_of_ne (by omega)
        have HD2 : Hid (∀ j, j ≤ 1 → (Ns.opn ts j).length ≤ 64) := Lib.hid fun j hj => by
          by_cases e : j = 1
          · subst e; omega
          · exact HD.out j (by omega)
        have hzk : 0 < ((Ns.enZ ts 0).set 0 (-1)).length := by rw [List.length_set]; omega
        have hol2 : (Ns.ni (Ns.opn ts 0)).length ≤ 1000000 := by omega
        clear hpl hnl hol
        generalize Ns.clo (Tk.tk ts 0) = cl at *
        generalize Tk.tk ts 0 = u at *
        go_upto_region 10 with (go_at_call 26; ((with_reducible refine (CC.out _).mono ?_); rintro e w2 ⟨rfl, b2⟩; have HE2 := Lib.hid (HE1.out.next b2); clear b2))
        have c3 := HE2.out.cell hzk
        have z3 := HE2.out.free 0
        obtain ⟨W3, hW3⟩ : ∃ W3, W3 = w2.setCell ⟨w.heap.size, 0, none⟩ (.int .i64 ts.length) := ⟨_, rfl⟩
        have HE3 : Hid (En (w.heap.size + 1) w.heap.size w (Ns.enZ ts 1) (.slice none 0 0) (Ns.ni (Ns.opn ts 0)) W3) := Lib.hid (by rw [hW3, ← HV]; exact HE2.out.set_ 0 _)
        have HW3 := Lib.hid hW3.symm
        clear hW3 hzk HV
        go_upto_region 11 with fail
        rw [HW3.out]
        clear HW3 c3 z3
        go_wp2_with (at_builtin; refine En.app rfl _ _ rfl rfl HE3.out ((0 : Nat) : Int) _ _ rfl hol2 ?_; intro v' w4 H4; rw [← HN.out] at H4; have HE4 := Lib.hid H4; clear H4)
        go_step3
        exact ⟨rfl, ⟨1, _, _, _, _, _, _, _, _, _, _, _, _, _, _, _, _, _, _, _, _, _, _, _, _, _, _, _, _, _, _, _, _, _, _, _, _, _, _, _, _, _, _, _, _, _, _, _, _, _, _, _, _, _, _, _, _, _, _, _, _, _, _, _, _, _, rfl, by omega, HE4, HD2⟩⟩
      · have hcn := Ns.clo_none hO
        rw [hcn] at CC
        have hcc : ¬ Ns.closes ts (Ns.opn ts 0) 0 := fun h => h.2.1 rfl
        have HN : Hid (Ns.ni (Ns.opn ts 1) = Ns.ni (Ns.opn ts 0)) := Lib.hid (by rw [show (1 : Nat) = 0 + 1 from rfl, Ns.opn_keep hO hcc])
        have HZ := Lib.hid (Ns.enZ_keep hlt hO hcc)
        have HD2 : Hid (∀ j, j ≤ 1 → (Ns.opn ts j).length ≤ 64) := Lib.hid fun j hj => by
          by_cases e : j = 1
          · subst e; rw [show (1 : Nat) = 0 + 1 from rfl, Ns.opn_keep hO hcc]; exact Nat.zero_le _
          · exact HD.out j (by omega)
        clear hcn hO hcc HP hol hnl hd0
        generalize Tk.tk ts 0 = u at *
        go_upto_region 13 with (go_at_call 26; ((with_reducible refine (CC.out _).mono ?_); rintro e w2 ⟨rfl, b2⟩; have HE2 := Lib.hid (HE1.out.next b2); clear b2))
        go_quiet (fail)
        go_wp2_with fail
        go_step3
        have HE3 : Hid (En (w.heap.size + 1) w.heap.size w (Ns.enZ ts 1) (.slice none 0 0) (Ns.ni (Ns.opn ts 1)) (w2.drewN nq)) := Lib.hid (by rw [HN.out]; have := HE2.out.drewN nq; rw [HZ.out] at this; exact this)
        exact ⟨rfl, ⟨1, _, _, _, _, _, _, _, _, _, _, _, _, _, _, _, _, _, _, _, _, _, _, _, _, _, _, _, _, _, _, _, _, _, _, _, _, _, _, _, _, _, _, _, _, _, _, _, _, _, _, _, _, _, _, _, _, _, _, _, _, _, _, _, _, _, rfl, by omega, HE3, HD2⟩⟩
    · obtain rfl : ts = [] := List.eq_nil_of_length_eq_zero (by omega)
      have HF := Lib.hid (HE0.out.told (Ns.enZ_len hk0) (by omega))
      have HB := Lib.hid HE0.out.bel
      have HZ := Lib.hid (show Ns.enZ [] 0 = Ns.ends [] from Ns.enZ_end [])
      simp only [List.length_nil]
      go_wp2_with fail
      simp only [Exit.jump]
      go_ret2
      exact ⟨fun _ => ⟨_, rfl, by have := HF.out; rw [HZ.out] at this; exact this, HB.out⟩, fun ⟨j, h1, h2⟩ => by have := HD.out (j + 1) (by omega); omega⟩
  · rintro a' wr ⟨k, v, u1, u2, u3, u7, u8, u9, u10, u11, u12, u13, u14, u15, u16, u17, u18, u19, u20, u21, u22, u23, u24, u25, u26, u27, u28, u29, u30, u31, u32, u33, u34, u35, u36, u37, u38, u39, u40, u41, u42, u43, u44, u45, u46, u47, u48, u49, u50, u51, u52, u53, u54, u55, u56, u57, u58, u59, u60, u61, u62, u63, u64, u65, u66, u67, rfl, hk, HE, HD⟩
    clear HW hmk HE0
    obtain ⟨Av, cv, rfl, _⟩ := HE.out.form
    by_cases hlt : k < ts.length
    · have hcell := HE.out.cell (j := k) (by rw [Ns.enZ_len hk]; exact hlt)
      have hfree := HE.out.free k
      obtain ⟨W1, hW1⟩ : ∃ W1, W1 = wr.setCell ⟨w.heap.size, k, none⟩ (.int .i64 (-1)) := ⟨_, rfl⟩
      have HE1 : Hid (En (w.heap.size + 1) w.heap.size w ((Ns.enZ ts k).set k (-1)) (.slice Av (Ns.ni (Ns.opn ts k)).length cv) (Ns.ni (Ns.opn ts k)) W1) := Lib.hid (by rw [hW1]; exact HE.out.set_ k (-1))
      have HW1 := Lib.hid hW1.symm
      obtain ⟨bb, off, rfl, hbb, hp⟩ := (HT.out.next HE1.out.bel) (by omega)
      obtain ⟨p0, p1, p2⟩ := hp k hlt
      have HP := Lib.hid hp
      have CC : Hid (∀ W, Calls Try.prog 26 #[.agg #[.int .i64 (Tk.tk ts k).1, .string (Tk.tk ts k).2.1, .int .i64 (Tk.tk ts k).2.2]] W (Sg (Ns.clo (Tk.tk ts k)) W)) := Lib.hid fun W => closing_any _ _ _ W
      have hol := Ns.opn_len ts k
      have hnl := Ns.ni_len (Ns.opn ts k)
      have hne : (k == ts.length) = false := beq_false_of_ne (by omega)
      have hne2 : (((k : Nat) : Int) == (ts.length : Int)) = false := beq_false_of_ne (by omega)
      have hzl := Ns.enZ_len (ts := ts) (k := k) hk
      have hd0 := HD.out k (Nat.le_refl _)
      clear hp hW1
      go_upto_region 7 with fail
      rw [HW1.out]
      clear HW1 hcell hfree
      by_cases hO : Ns.isO (Tk.tk ts k)
      · have he := Ns.empty_f hO
        have HN : Hid (Ns.ni (Ns.opn ts (k + 1)) = Ns.ni (Ns.opn ts k) ++ [((k : Nat) : Int)]) := Lib.hid (by rw [show (k + 1) = k + 1 from rfl, Ns.opn_push hO, Ns.ni_app]; rfl)
        have HZ := Lib.hid (Ns.enZ_push hlt hO)
        have hpl : (Ns.opn ts (k + 1)).length = (Ns.opn ts k).length + 1 := by rw [show (k + 1) = k + 1 from rfl, Ns.opn_push hO]; simp
        by_cases h64 : (Ns.opn ts k).length = 64
        · have HV : Hid (Ns.deep ts) := Lib.hid ⟨k, hlt, by omega⟩
          have e64 : ((Ns.ni (Ns.opn ts k)).length == 64) = true := by rw [hnl, h64]; rfl
          have e64i : (((Ns.ni (Ns.opn ts k)).length : Int) == 64) = true := by rw [hnl, h64]; rfl
          clear h64 hpl hnl hol HN HZ HP
          generalize Ns.clo (Tk.tk ts k) = cl at *
          generalize Tk.tk ts k = u at *
          go_wp2_with (go_at_call 26; ((with_reducible refine (CC.out _).mono ?_); rintro e w2 ⟨rfl, b2⟩; have HE2 := Lib.hid (HE1.out.next b2); clear b2))
          simp only [Exit.jump]
          go_ret2
          exact ⟨fun h => absurd HV.out h, fun _ => ⟨rfl, HE2.out.bel⟩⟩
        · have HV := HZ.out
          have e64 : ((Ns.ni (Ns.opn ts k)).length == 64) = false := beq_false_of_ne (by omega)
          have e64i : (((Ns.ni (Ns.opn ts k)).length : Int) == 64) = false := beq_false_of_ne (by omega)
          have HD2 : Hid (∀ j, j ≤ (k + 1) → (Ns.opn ts j).length ≤ 64) := Lib.hid fun j hj => by
            by_cases e : j = (k + 1)
            · subst e; omega
            · exact HD.out j (by omega)
          have hzk : k < ((Ns.enZ ts k).set k (-1)).length := by rw [List.length_set]; omega
          have hol2 : (Ns.ni (Ns.opn ts k)).length ≤ 1000000 := by omega
          clear hpl hnl hol
          generalize Ns.clo (Tk.tk ts k) = cl at *
          generalize Tk.tk ts k = u at *
          go_upto_region 10 with (go_at_call 26; ((with_reducible refine (CC.out _).mono ?_); rintro e w2 ⟨rfl, b2⟩; have HE2 := Lib.hid (HE1.out.next b2); clear b2))
          have c3 := HE2.out.cell hzk
          have z3 := HE2.out.free k
          obtain ⟨W3, hW3⟩ : ∃ W3, W3 = w2.setCell ⟨w.heap.size, k, none⟩ (.int .i64 ts.length) := ⟨_, rfl⟩
          have HE3 : Hid (En (w.heap.size + 1) w.heap.size w (Ns.enZ ts (k + 1)) (.slice Av (Ns.ni (Ns.opn ts k)).length cv) (Ns.ni (Ns.opn ts k)) W3) := Lib.hid (by rw [hW3, ← HV]; exact HE2.out.set_ k _)
          have HW3 := Lib.hid hW3.symm
          clear hW3 hzk HV
          go_upto_region 11 with fail
          rw [HW3.out]
          clear HW3 c3 z3
          go_wp2_with (at_builtin; refine En.app rfl _ _ rfl rfl HE3.out ((k : Nat) : Int) _ _ rfl hol2 ?_; intro v' w4 H4; rw [← HN.out] at H4; have HE4 := Lib.hid H4; clear H4)
          go_step3
          exact ⟨rfl, ⟨k + 1, _, _, _, _, _, _, _, _, _, _, _, _, _, _, _, _, _, _, _, _, _, _, _, _, _, _, _, _, _, _, _, _, _, _, _, _, _, _, _, _, _, _, _, _, _, _, _, _, _, _, _, _, _, _, _, _, _, _, _, _, _, _, _, _, _, rfl, by omega, HE4, HD2⟩, by unfold at6; simp [RowKit.intOf]; omega⟩
      · have hcn := Ns.clo_none hO
        rw [hcn] at CC
        have HD2 : Hid (∀ j, j ≤ k + 1 → (Ns.opn ts j).length ≤ 64) := Lib.hid fun j hj => by
          by_cases e : j = k + 1
          · subst e
            by_cases hc : Ns.closes ts (Ns.opn ts k) k
            · rw [Ns.opn_pop hc, List.length_dropLast]; omega
            · rw [Ns.opn_keep hO hc]; exact hd0
          · exact HD.out j (by omega)
        by_cases hl0 : 0 < (Ns.opn ts k).length
        · have hnn : Ns.opn ts k ≠ [] := by intro e; rw [e] at hl0; simp at hl0
          have hTm := Ns.opn_lt (Ns.top_mem hnn)
          have HIF := Lib.hid (shuts_iff hnn)
          obtain ⟨q0, q1, q2⟩ := HP.out (Ns.top (Ns.opn ts k)) (by omega)
          obtain ⟨g, cg, hvg, _, hg1, hgc0⟩ := HE1.out.at_ (by omega)
          have hgc := hgc0 ((Ns.ni (Ns.opn ts k)).length - 1) (by omega)
          have htg := Ns.top_g hl0
          rw [← hnl] at htg
          rw [htg] at hgc
          have HX : Hid (Ns.closes ts (Ns.opn ts k) k → Ns.ni (Ns.opn ts (k + 1)) = (Ns.ni (Ns.opn ts k)).take ((Ns.ni (Ns.opn ts k)).length - 1) ∧ ((Ns.enZ ts k).set k (-1)).set (Ns.top (Ns.opn ts k)) (k : Int) = Ns.enZ ts (k + 1)) := Lib.hid fun hc => ⟨by rw [Ns.opn_pop hc, Ns.ni_drop, Ns.ni_len], Ns.enZ_pop hlt hc⟩
          have HY : Hid (¬ Ns.closes ts (Ns.opn ts k) k → Ns.ni (Ns.opn ts (k + 1)) = Ns.ni (Ns.opn ts k) ∧ (Ns.enZ ts k).set k (-1) = Ns.enZ ts (k + 1)) := Lib.hid fun hc => ⟨by rw [Ns.opn_keep hO hc], Ns.enZ_keep hlt hO hc⟩
          have CT : Hid (∀ W, Calls Try.prog 27 #[.agg #[.int .i64 (Tk.tk ts k).1, .string (Tk.tk ts k).2.1, .int .i64 (Tk.tk ts k).2.2], .agg #[.int .i64 (Tk.tk ts (Ns.top (Ns.opn ts k))).1, .string (Tk.tk ts (Ns.top (Ns.opn ts k))).2.1, .int .i64 (Tk.tk ts (Ns.top (Ns.opn ts k))).2.2]] W (Bo (decide (Ns.shuts (Tk.tk ts k) (Tk.tk ts (Ns.top (Ns.opn ts k))))) W)) := Lib.hid fun W => closes_any _ _ _ _ _ _ W
          have hTz : Ns.top (Ns.opn ts k) < ((Ns.enZ ts k).set k (-1)).length := by rw [List.length_set]; omega
          have hT1 : Ns.top (Ns.opn ts k) < ts.length := by omega
          have hpos : 0 < (Ns.ni (Ns.opn ts k)).length := by omega
          have hol2 : (Ns.ni (Ns.opn ts k)).length ≤ 1000 := by omega
          injection hvg with hA _ hcg
          subst hA hcg
          clear hgc0 htg hcn hO hl0 hnn hTm HP hol hnl hd0 hzl
          generalize Tk.tk ts (Ns.top (Ns.opn ts k)) = x at *
          generalize Ns.top (Ns.opn ts k) = T at *
          generalize Tk.tk ts k = u at *
          generalize Ns.ni (Ns.opn ts k) = ol at *
          have hsub : IntKind.i64.wrap ((ol.length : Int) - 1) = (ol.length : Int) - 1 := IntWalk.i64_in _ (by omega)
          have hsn : ((ol.length : Int) - 1).toNat = ol.length - 1 := by omega
          have hsb : (0 : Int) ≤ (ol.length : Int) - 1 := by omega
          have hti : (T : Int) < (ts.length : Int) := by omega
          have hsl : (ol.length : Int) - 1 < (ol.length : Int) := by omega
          have hk0 : (0 : Int) ≤ (k : Int) := by omega
          have hs1 : (1 : Int) ≤ (ol.length : Int) := by omega
          have hs2 : 1 ≤ ol.length := by omega
          have hk1 : (k : Int) < (ts.length : Int) := by omega
          go_upto_region 13 with (go_at_call 26; ((with_reducible refine (CC.out _).mono ?_); rintro e w2 ⟨rfl, b2⟩; have HE2 := Lib.hid (HE1.out.next b2); have r0 := (b2.cell (p := ⟨bb, off + k * 3, none⟩) hbb).trans p0; have s0 := (b2.cell (p := ⟨bb, off + T * 3, none⟩) hbb).trans q0; have r1 := (b2.cell (p := ⟨bb, off + k * 3 + 1, none⟩) hbb).trans p1; have s1 := (b2.cell (p := ⟨bb, off + T * 3 + 1, none⟩) hbb).trans q1; have r2 := (b2.cell (p := ⟨bb, off + k * 3 + 2, none⟩) hbb).trans p2; have s2 := (b2.cell (p := ⟨bb, off + T * 3 + 2, none⟩) hbb).trans q2; have gc := (b2.cell (p := ⟨g, ol.length - 1, none⟩) hg1).trans hgc; have hbb2 := Nat.lt_of_lt_of_le hbb b2.size; have hg2 := Nat.lt_of_lt_of_le hg1 b2.size; clear b2))
          clear p0 p1 p2 q0 q1 q2 hgc hbb hg1
          by_cases hc : Ns.closes ts (Ns.opn ts k) k
          · have hbt : decide (Ns.shuts u x) = true := decide_eq_true (HIF.out.2 hc)
            have HXX := Lib.hid (HX.out hc)
            rw [hbt] at CT
            clear hbt HX HY HIF hc
            go_region_held3 (fun w' => w'.cell? ⟨bb, off + k * 3, none⟩ = some (.int .i64 u.1) ∧ w'.cell? ⟨bb, off + k * 3 + 1, none⟩ = some (.string u.2.1) ∧ w'.cell? ⟨bb, off + k * 3 + 2, none⟩ = some (.int .i64 u.2.2) ∧ w'.cell? ⟨bb, off + T * 3, none⟩ = some (.int .i64 x.1) ∧ w'.cell? ⟨bb, off + T * 3 + 1, none⟩ = some (.string x.2.1) ∧ w'.cell? ⟨bb, off + T * 3 + 2, none⟩ = some (.int .i64 x.2.2) ∧ w'.cell? ⟨g, ol.length - 1, none⟩ = some (.int .i64 T))
          (first | go_keep | (go_split_ands; exact ⟨(hb1.cell (p := ⟨bb, off + k * 3, none⟩) hbb2).trans (by assumption), (hb1.cell (p := ⟨bb, off + k * 3 + 1, none⟩) hbb2).trans (by assumption), (hb1.cell (p := ⟨bb, off + k * 3 + 2, none⟩) hbb2).trans (by assumption), (hb1.cell (p := ⟨bb, off + T * 3, none⟩) hbb2).trans (by assumption), (hb1.cell (p := ⟨bb, off + T * 3 + 1, none⟩) hbb2).trans (by assumption), (hb1.cell (p := ⟨bb, off + T * 3 + 2, none⟩) hbb2).trans (by assumption), (hb1.cell (p := ⟨g, ol.length - 1, none⟩) hg2).trans (by assumption)⟩))
          (first | (go_at_call 27; refine (CT.out _).mono ?_; rintro e w3 ⟨rfl, hb1⟩))
            have HE3 := Lib.hid (HE2.out.next ((Below.refl _ _).drew.trans hb1))
            have gc3 := (hb1.cell (p := ⟨g, ol.length - 1, none⟩) hg2).trans gc
            clear hb1 r0 r1 r2 s0 s1 s2 gc
            go_upto_region 14 with fail
            have c5 := HE3.out.cell hTz
            have z5 := HE3.out.free T
            obtain ⟨W4, hW4⟩ : ∃ W4, W4 = w3.setCell ⟨w.heap.size, T, none⟩ (.int .i64 k) := ⟨_, rfl⟩
            have HE4 : Hid (En (w.heap.size + 1) w.heap.size w (Ns.enZ ts (k + 1)) (.slice (some ⟨g, 0, none⟩) ol.length cv) ol W4) := Lib.hid (by rw [hW4, ← HXX.out.2]; exact HE3.out.set_ T _)
            have HW4 := Lib.hid hW4.symm
            clear hW4
            go_upto_region 15 with fail
            rw [HW4.out]
            clear HW4 c5 z5
            go_wp2_with fail
            go_step3
            have HE5 : Hid (En (w.heap.size + 1) w.heap.size w (Ns.enZ ts (k + 1)) (.slice (some ⟨g, 0, none⟩) (ol.length - 1) cv) (Ns.ni (Ns.opn ts (k + 1))) W4) := Lib.hid (by rw [HXX.out.1]; exact HE4.out.cut rfl (Nat.sub_le _ _))
            exact ⟨rfl, ⟨k + 1, _, _, _, _, _, _, _, _, _, _, _, _, _, _, _, _, _, _, _, _, _, _, _, _, _, _, _, _, _, _, _, _, _, _, _, _, _, _, _, _, _, _, _, _, _, _, _, _, _, _, _, _, _, _, _, _, _, _, _, _, _, _, _, _, _, rfl, by omega, HE5, HD2⟩, by unfold at6; simp [RowKit.intOf]; omega⟩
          · have hbt : decide (Ns.shuts u x) = false := decide_eq_false (fun c => hc (HIF.out.1 c))
            have HYY := Lib.hid (HY.out hc)
            rw [hbt] at CT
            clear hbt HX HY HIF hc
            go_region_held3 (fun w' => w'.cell? ⟨bb, off + k * 3, none⟩ = some (.int .i64 u.1) ∧ w'.cell? ⟨bb, off + k * 3 + 1, none⟩ = some (.string u.2.1) ∧ w'.cell? ⟨bb, off + k * 3 + 2, none⟩ = some (.int .i64 u.2.2) ∧ w'.cell? ⟨bb, off + T * 3, none⟩ = some (.int .i64 x.1) ∧ w'.cell? ⟨bb, off + T * 3 + 1, none⟩ = some (.string x.2.1) ∧ w'.cell? ⟨bb, off + T * 3 + 2, none⟩ = some (.int .i64 x.2.2) ∧ w'.cell? ⟨g, ol.length - 1, none⟩ = some (.int .i64 T))
          (first | go_keep | (go_split_ands; exact ⟨(hb1.cell (p := ⟨bb, off + k * 3, none⟩) hbb2).trans (by assumption), (hb1.cell (p := ⟨bb, off + k * 3 + 1, none⟩) hbb2).trans (by assumption), (hb1.cell (p := ⟨bb, off + k * 3 + 2, none⟩) hbb2).trans (by assumption), (hb1.cell (p := ⟨bb, off + T * 3, none⟩) hbb2).trans (by assumption), (hb1.cell (p := ⟨bb, off + T * 3 + 1, none⟩) hbb2).trans (by assumption), (hb1.cell (p := ⟨bb, off + T * 3 + 2, none⟩) hbb2).trans (by assumption), (hb1.cell (p := ⟨g, ol.length - 1, none⟩) hg2).trans (by assumption)⟩))
          (first | (go_at_call 27; refine (CT.out _).mono ?_; rintro e w3 ⟨rfl, hb1⟩))
            have HE3 : Hid (En (w.heap.size + 1) w.heap.size w (Ns.enZ ts (k + 1)) (.slice (some ⟨g, 0, none⟩) ol.length cv) (Ns.ni (Ns.opn ts (k + 1))) w3) := Lib.hid (by rw [HYY.out.1, ← HYY.out.2]; exact HE2.out.next ((Below.refl _ _).drew.trans hb1))
            clear hb1 r0 r1 r2 s0 s1 s2 gc
            go_wp2_with fail
            go_step3
            exact ⟨rfl, ⟨k + 1, _, _, _, _, _, _, _, _, _, _, _, _, _, _, _, _, _, _, _, _, _, _, _, _, _, _, _, _, _, _, _, _, _, _, _, _, _, _, _, _, _, _, _, _, _, _, _, _, _, _, _, _, _, _, _, _, _, _, _, _, _, _, _, _, _, rfl, by omega, HE3, HD2⟩, by unfold at6; simp [RowKit.intOf]; omega⟩
        · have hcc : ¬ Ns.closes ts (Ns.opn ts k) k := fun h => h.2.1 (List.eq_nil_of_length_eq_zero (by omega))
          have HN : Hid (Ns.ni (Ns.opn ts (k + 1)) = Ns.ni (Ns.opn ts k)) := Lib.hid (by rw [Ns.opn_keep hO hcc])
          have HZ := Lib.hid (Ns.enZ_keep hlt hO hcc)
          have hni : Ns.ni (Ns.opn ts k) = [] := List.eq_nil_of_length_eq_zero (by omega)
          clear hcn hO hcc HP hol hnl hd0 hl0
          generalize Tk.tk ts k = u at *
          generalize Ns.ni (Ns.opn ts k) = ol at *
          subst hni
          simp only [List.length_nil]
          go_upto_region 13 with (go_at_call 26; ((with_reducible refine (CC.out _).mono ?_); rintro e w2 ⟨rfl, b2⟩; have HE2 := Lib.hid (HE1.out.next b2); clear b2))
          go_quiet (fail)
          go_wp2_with fail
          go_step3
          have HE3 : Hid (En (w.heap.size + 1) w.heap.size w (Ns.enZ ts (k + 1)) (.slice Av 0 cv) (Ns.ni (Ns.opn ts (k + 1))) (w2.drewN nq)) := Lib.hid (by rw [HN.out, ← HZ.out]; exact HE2.out.drewN _)
          exact ⟨rfl, ⟨k + 1, _, _, _, _, _, _, _, _, _, _, _, _, _, _, _, _, _, _, _, _, _, _, _, _, _, _, _, _, _, _, _, _, _, _, _, _, _, _, _, _, _, _, _, _, _, _, _, _, _, _, _, _, _, _, _, _, _, _, _, _, _, _, _, _, _, rfl, by omega, HE3, HD2⟩, by unfold at6; simp [RowKit.intOf]; omega⟩
    · obtain rfl : k = ts.length := by omega
      have HF := Lib.hid (HE.out.told (Ns.enZ_len hk) (by omega))
      have HB := Lib.hid HE.out.bel
      have HZ := Lib.hid (Ns.enZ_end ts)
      go_wp2_with fail
      simp only [Exit.jump]
      go_ret2
      exact ⟨fun _ => ⟨_, rfl, by have := HF.out; rw [HZ.out] at this; exact this, HB.out⟩, fun ⟨j, h1, h2⟩ => by have := HD.out (j + 1) (by omega); omega⟩
end Go.Proofs.Ytpjdaenmfdcjhaa
