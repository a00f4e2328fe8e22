/-
  Arrays of two numbers: loaded and compared in a region that only reads. No run of the program in this text.
-/
import Derived.Test.YtpjdaenmfdcjhaaGaa
import Derived.Deep.MidRow
import Derived.Laws.StructEq
import Derived.Deep.QuietTactic
import Derived.BigQuiet
import Derived.Test.YtpjdaenmfdcjhaaGam
import Derived.Test.YtpjdaenmfdcjhaaGae
import Derived.LoopTactic
import Derived.IntWalk
namespace Go.Proofs.Ytpjdaenmfdcjhaa
open Go.RowKit

theorem quiet_load_mid {P : Program} {C : World → Prop} {K : Act → Prop} {a : Act} {o : Oper} (ty : TypeId) (x : Operand) (h : o.op = .load ty x) (b off : Nat) (hx : a.eval x = .pointer (some ⟨b, off, none⟩)) (cs : List Value) (d : TypeDesc)
    (hc : ∀ w, C w → w.rangeAt b off cs) (hu : P.underlying ty = some d) (hd : d.isRow = true) (hi : (P.info? ty).map (·.size) = some cs.length) (hk : K (a.put o.dst (.agg cs.toArray))) : o.quiet P a C K :=
  ⟨_, fun w hw => by
    unfold Oper.quietAt execOp
    simp only [h, hx, Sem.run_bind, run_loadAt_mid w b off ty cs d (hc w hw) hu hd hi, Result.andThen_ok, Sem.run_pure]
    exact ⟨rfl, rfl⟩, hk⟩
theorem quiet_run {C : World → Prop} {K : Act → Prop} {P : Program} {a : Act} {o : Oper} (v : Value) (hs : ∀ w : World, (execOp a.eval o).run P w = .ok (.value v) w) (hk : K (a.put o.dst v)) : o.quiet P a C K :=
  ⟨_, fun w _ => by
    unfold Oper.quietAt
    rw [hs w]
    exact ⟨rfl, rfl⟩, hk⟩
theorem pair_same (x y : Int) (w : World) : (binOp .neq 39 (.agg #[.int .i64 x, .int .i64 y]) (.agg #[.int .i64 x, .int .i64 y])).run Try.prog w = .ok (.bool false) w := by
  have h : ∀ d : Nat, (Op.equalIn (d + 2) 39 (.agg #[.int .i64 x, .int .i64 y]) (.agg #[.int .i64 x, .int .i64 y])).run Try.prog w = .ok true w := fun d => by
    have p0 : (part 3 #[Value.int .i64 x, .int .i64 y] 0).run Try.prog w = .ok (.int .i64 x) w := by kernel_rfl
    have p1 : (part 3 #[Value.int .i64 x, .int .i64 y] 1).run Try.prog w = .ok (.int .i64 y) w := by kernel_rfl
    simp [Op.equalIn, run_underlying Try.underlying39, run_underlying Try.underlying3, List.range', p0, p1]
  simp only [binOp]
  simp [Op.equal, Op.maxDepth, h 9998]
theorem pair_guard (x y : Int) (w : World) (i j : Nat) : (eqGuard .neq 39 (.tmp i) (.tmp j) (.agg #[.int .i64 x, .int .i64 y]) (.agg #[.int .i64 x, .int .i64 y])).run Try.prog w = .ok () w := by
  have hg : Try.prog.eqGuardType Try.prog.depth 39 = false := by kernel_rfl
  simp [eqGuard, hg]
end Go.Proofs.Ytpjdaenmfdcjhaa

/-
  The walk of the law NestParts.
-/
namespace Go.Proofs.Ytpjdaenmfdcjhaa
open Go.RowKit

theorem Ns.spl_len (p : Nat → Bool) (tz : Nat) : ∀ (pl : List Nat) (b : Nat), (Ns.spl p tz pl b).length ≤ pl.length + 1
  | [], _ => Nat.le_refl _
  | a :: r, b => by
    unfold Ns.spl
    split
    · have := Ns.spl_len p tz r (a + 1); simp only [List.length_cons]; omega
    · have := Ns.spl_len p tz r b; simp only [List.length_cons]; omega
set_option maxHeartbeats 16000000 in
set_option maxRecDepth 100000 in
theorem nparts_any (N : NestC) (us : List Tk.Tok) (hn : us.length ≤ 9223372036854775807) (A : Option Addr) (cap : Nat) (hc : us.length ≤ cap) (fr tz kd : Int) (hfr : I64 fr) (htz : I64 tz) (w : World) (h : Ts w w.heap.size A us) :
    Calls Try.prog 4 #[.slice A us.length cap, .int .i64 fr, .int .i64 tz, .int .i64 kd] w (Bo true w) := by
  have CA : Hid (∀ W, Calls Try.prog 11 #[] W (Bo true W)) := Lib.hid (lawake_any N)
  obtain ⟨W0, hW⟩ : ∃ W0, W0 = w.alloc (.cells #[.int .i64 kd] 3) := ⟨_, rfl⟩
  have hb0 : Below w.heap.size w W0 := by rw [hW]; exact (Below.refl _ _).alloc (Nat.le_refl _) _
  have k0 : W0.heap[w.heap.size]? = some (.cells #[.int .i64 kd] 3 (0, 0)) := by rw [hW]; exact heap_alloc_new w _
  have hlt0 : w.heap.size < W0.heap.size := by rw [hW]; simp
  have HB0 := Lib.hid hb0
  have HW := Lib.hid hW.symm
  have HK : Hid (∀ W, Below W0.heap.size W0 W → W.cell? ⟨w.heap.size, 0, none⟩ = some (.int .i64 kd) ∧ w.heap.size < W.heap.size) := Lib.hid fun W hb => ⟨by
    have := below_block hb k0
    simp [World.cell?, this], Nat.lt_of_lt_of_le hlt0 hb.size⟩
  have h' := h.next hb0
  have few : ∀ (b : Bool), (b = true ↔ Pr.Fair us) → Calls Try.prog 10 #[.slice A us.length cap] W0 fun e w' => e = .returned (.bool b) ∧ W0 = w' := fun b hb => few_any us hn b hb A cap W0 h'
  clear hb0 k0 hlt0 hW h
  by_cases hF : Pr.Fair us
  · have CF := Lib.hid (few true (by simp [hF]))
    have hm := hF.1
    have CE := Lib.hid (rends_any us (by omega) A cap W0 h')
    clear few hF
    by_cases hd : Ns.deep us
    · have CE2 := Lib.hid (CE.out.mono fun e w' h => h.2 hd)
      clear CE hd h'
      go_enter Try.func4, Try.ntmps4
      go_upto_region 1 with fail
      rw [HW.out]
      clear HW
      go_wp2_with (first | (go_at_call 10; ((with_reducible refine (CF.out).mono ?_); rintro e w1 ⟨rfl, rfl⟩)) | (go_at_call 13; ((with_reducible refine (CE2.out).mono ?_); rintro e w2 ⟨rfl, b2⟩; have HB2 := Lib.hid (below_next HB0.out b2); clear b2)) | (go_at_call 11; ((with_reducible refine (CA.out _).mono ?_); rintro e w5 ⟨rfl, b5⟩; have HB5 := Lib.hid (below_next HB2.out b5); clear b5)))
      go_ret
      exact ⟨rfl, HB5.out⟩
    · have CE2 : Hid (Calls Try.prog 13 #[.slice A us.length cap] W0 (EndsL (Ns.ends us) W0)) := Lib.hid (CE.out.mono fun e w' h => ends_rd (h.1 hd))
      have H := Lib.hid h'
      have hel := Ns.ends_len us
      have hfit : Ns.Fit (Ns.ends us) := Ns.ends_fit (by omega)
      have CN : Hid (∀ (C : Option Addr) (cc : Nat) (W : World), (Ns.ends us).length ≤ cc → Below W0.heap.size W0 W → Bs W W.heap.size .i64 C (Ns.ends us) → Calls Try.prog 16 #[.slice A us.length cap, .slice C (Ns.ends us).length cc, .int .i64 fr, .int .i64 tz, isKV w.heap.size] W (Nu (Ns.fndR us fr tz kd) W)) := Lib.hid fun C cc W hcc hb hB =>
        N.find us (by omega) A C cap cc hc hcc fr tz kd hfr htz w.heap.size W (HK.out W hb).2 (HK.out W hb).1 (H.out.next hb) hB
      have CS : Hid (∀ (C : Option Addr) (cc : Nat) (W : World), (Ns.ends us).length ≤ cc → Below W0.heap.size W0 W → Bs W W.heap.size .i64 C (Ns.ends us) → Calls Try.prog 17 #[.slice A us.length cap, .slice C (Ns.ends us).length cc, .int .i64 fr, .int .i64 tz, .int .i64 kd] W (ToldP (Ns.splR us fr tz kd) W)) := Lib.hid fun C cc W hcc hb hB =>
        N.split us (by omega) A C cap cc hc hcc fr tz kd hfr htz W (H.out.next hb) hB
      have CT : Hid (∀ W, Below W0.heap.size W0 W → Calls Try.prog 18 #[.slice A us.length cap, .int .i64 fr, .int .i64 tz] W (Tw (Ns.trR us fr tz).1 (Ns.trR us fr tz).2 W)) := Lib.hid fun W hb => N.trim us (by omega) A cap hc fr tz hfr htz W (H.out.next hb)
      have HFR := Lib.hid hfr
      have HTZ := Lib.hid htz
      have hfr1 := hfr.1
      have hfr2 := hfr.2
      have htz1 := htz.1
      have htz2 := htz.2
      clear CE hd h' N hfr htz
      by_cases hok : Ns.okp us fr tz
      · have h1 : Ns.fndR us fr tz kd = Ns.fnd (Ns.isK us kd) (Ns.plc (Ns.ends us) tz.toNat fr.toNat) := if_pos hok
        have h2 : Ns.splR us fr tz kd = Ns.spl (Ns.isK us kd) tz.toNat (Ns.plc (Ns.ends us) tz.toNat fr.toNat) fr.toNat := if_pos hok
        have h3 : Ns.trR us fr tz = (((Ns.trA us tz.toNat fr.toNat : Nat) : Int), ((Ns.trB us (Ns.trA us tz.toNat fr.toNat) tz.toNat : Nat) : Int)) := if_pos hok
        rw [h1] at CN
        rw [h2] at CS
        rw [h3] at CT
        obtain ⟨o1, o2, o3⟩ := hok
        obtain ⟨f, rfl⟩ : ∃ f : Nat, fr = f := ⟨fr.toNat, by omega⟩
        obtain ⟨t, rfl⟩ : ∃ t : Nat, tz = t := ⟨tz.toNat, by omega⟩
        rw [Int.toNat_natCast, Int.toNat_natCast] at CN CS CT
        simp only at CT
        have hft : f ≤ t := by omega
        have htl : t ≤ us.length := by omega
        have RT : Hid (∀ W, Below W0.heap.size W0 W → Calls Try.prog 19 #[.slice A us.length cap, .int .i64 f, .int .i64 t] W (Tw (Ns.trA us t f) (Ns.trB us (Ns.trA us t f) t) W)) := Lib.hid fun W hb => rtrim_any us (by omega) A cap f t hft htl W (H.out.next hb)
        have RS : Hid (∀ (C : Option Addr) (cc : Nat) (W : World), Below W0.heap.size W0 W → Bs W W.heap.size .i64 C (Ns.ends us) → Calls Try.prog 20 #[.slice A us.length cap, .slice C (Ns.ends us).length cc, .int .i64 f, .int .i64 t, .int .i64 kd] W (ToldP (Ns.spl (Ns.isK us kd) t (Ns.plc (Ns.ends us) t f) f) W)) := Lib.hid fun C cc W hb hB =>
          rsplit_any us _ hfit (by omega) A C cap cc f t hft (by omega) kd W (H.out.next hb) hB
        have RF : Hid (∀ (C : Option Addr) (cc : Nat) (W : World), Below W0.heap.size W0 W → Bs W W.heap.size .i64 C (Ns.ends us) → Calls Try.prog 21 #[.slice A us.length cap, .slice C (Ns.ends us).length cc, .int .i64 f, .int .i64 t, .int .i64 kd, .string ⟨#[]⟩] W (Nu (Ns.fnd (Ns.isK us kd) (Ns.plc (Ns.ends us) t f)) W)) := Lib.hid fun C cc W hb hB =>
          rfind_any us _ hfit (by omega) A C cap cc f t hft (by omega) kd W (H.out.next hb) hB
        have hspn : (Ns.spl (Ns.isK us kd) t (Ns.plc (Ns.ends us) t f) f).length ≤ 1000 := by
          have e1 := Ns.spl_len (Ns.isK us kd) t (Ns.plc (Ns.ends us) t f) f
          have e2 := Ns.plc_len (es := Ns.ends us) (t - f) f (Nat.le_refl (t - f))
          omega
        clear h1 h2 h3 hfit hel HFR HTZ o1 o2 o3 hfr1 hfr2 htz1 htz2
        generalize Ns.fnd (Ns.isK us kd) (Ns.plc (Ns.ends us) t f) = at1 at *
        generalize Ns.spl (Ns.isK us kd) t (Ns.plc (Ns.ends us) t f) f = sp at *
        generalize Ns.trB us (Ns.trA us t f) t = tb at *
        generalize Ns.trA us t f = ta at *
        generalize Ns.ends us = es at *
        go_enter Try.func4, Try.ntmps4
        go_upto_region 1 with fail
        rw [HW.out]
        clear HW
        go_upto_region 10 with (first | (go_at_call 10; ((with_reducible refine (CF.out).mono ?_); rintro e w1 ⟨rfl, rfl⟩)) | (go_at_call 13; ((with_reducible refine (CE2.out).mono ?_); rintro e w2 ⟨A2, c2, rfl, hc2, B2, b2⟩; have HB2 := Lib.hid b2; have HS2 := Lib.hid B2; clear b2 B2)) | (go_at_call 16; ((with_reducible refine (CN.out _ _ _ hc2 HB2.out HS2.out).mono ?_); rintro e w3 ⟨rfl, b3⟩; have HB3 := Lib.hid (below_next HB2.out b3); have HS3 := Lib.hid (HS2.out.next b3); have hk3 := (HK.out _ HB3.out).1; clear b3)) | (go_at_call 17; ((with_reducible refine (CS.out _ _ _ hc2 HB3.out HS3.out).mono ?_); rintro e w4 ⟨A4, c4, rfl, hc4, B4, b4⟩; have HB4 := Lib.hid (below_next HB3.out b4); have HS4 := Lib.hid (HS3.out.next b4); have HP4 := Lib.hid B4; clear b4 B4 hk3)) | (go_at_call 18; ((with_reducible refine (CT.out _ HB4.out).mono ?_); rintro e w5 ⟨rfl, b5⟩; have HB5 := Lib.hid (below_next HB4.out b5); have HS5 := Lib.hid (HS4.out.next b5); have HP5 := Lib.hid (HP4.out.next b5); clear b5)))
        have hk5 := (HK.out _ HB5.out).1
        clear CF CE2 CN CS CT HS2 HS3 HS4 HP4 HB2 HB3 HB4
        have d1 : decide ((f : Int) < 0) = false := decide_eq_false (by omega)
        have d2 : decide (t < f) = false := decide_eq_false (by omega)
        have d3 : decide (us.length < t) = false := decide_eq_false (by omega)
        go_wp2_with (first | (go_at_call 19; ((with_reducible refine (RT.out _ HB5.out).mono ?_); rintro e w6 ⟨rfl, b6⟩; have HB6 := Lib.hid (below_next HB5.out b6); have HS6 := Lib.hid (HS5.out.next b6); have HP6 := Lib.hid (HP5.out.next b6); have hk6 := (HK.out _ HB6.out).1; clear b6 hk5)) | (go_at_call 20; ((with_reducible refine (RS.out _ _ _ HB6.out HS6.out).mono ?_); rintro e w7 ⟨A7, c7, rfl, hc7, B7, b7⟩; have HB7 := Lib.hid (below_next HB6.out b7); have HS7 := Lib.hid (HS6.out.next b7); have HP7 := Lib.hid (HP6.out.next b7); have HQ7 := Lib.hid B7; have hk7 := (HK.out _ HB7.out).1; clear b7 B7 hk6)) | (go_at_call 21; ((with_reducible refine (RF.out _ _ _ HB7.out HS7.out).mono ?_); rintro e w8 ⟨rfl, b8⟩; have HB8 := Lib.hid (below_next HB7.out b8); have HP8 := Lib.hid (HP7.out.next b8); have HQ8 := Lib.hid (HQ7.out.next b8); clear b8 hk7)))
        clear RT RS RF HB6 HS6 HP6 HB7 HS7 HP7 HQ7 HB5 HS5 HP5
        go_loopw [125] (fun v125 wi => ∃ i : Nat, i ≤ sp.length ∧ v125 = .int .i64 i ∧ Hid (Below w8.heap.size w8 wi)) (fun v125 _ => sp.length - (RowKit.intOf v125).toNat)
        case atStart => exact ⟨0, Nat.zero_le _, rfl, Lib.hid (Below.refl _ _)⟩
        case round =>
          obtain ⟨i, hi, rfl, HBi⟩ := hrel
          by_cases hil : i < sp.length
          · obtain ⟨b4, o4, rfl, hb4, hp4⟩ := HP8.out (by rw [Ns.flat_len]; omega)
            obtain ⟨b7, o7, rfl, hb7, hp7⟩ := HQ8.out (by rw [Ns.flat_len]; omega)
            have hfl := Ns.flat_at hil
            have p0 := hp4 (i * 2) (by rw [Ns.flat_len]; omega)
            have p1 := hp4 (i * 2 + 1) (by rw [Ns.flat_len]; omega)
            have q0 := hp7 (i * 2) (by rw [Ns.flat_len]; omega)
            have q1 := hp7 (i * 2 + 1) (by rw [Ns.flat_len]; omega)
            rw [hfl.1] at p0 q0
            rw [hfl.2] at p1 q1
            have HLP : Hid (∀ W, Below w8.heap.size w8 W → W.rangeAt b4 (o4 + i * 2) [.int .i64 ((Ns.pr sp i).1 : Nat), .int .i64 ((Ns.pr sp i).2 : Nat)]) := Lib.hid fun W hb => pair_range ((hb.cell (p := ⟨b4, o4 + i * 2, none⟩) hb4).trans p0) (by rw [Nat.add_assoc]; exact (hb.cell (p := ⟨b4, o4 + (i * 2 + 1), none⟩) hb4).trans p1)
            have HLQ : Hid (∀ W, Below w8.heap.size w8 W → W.rangeAt b7 (o7 + i * 2) [.int .i64 ((Ns.pr sp i).1 : Nat), .int .i64 ((Ns.pr sp i).2 : Nat)]) := Lib.hid fun W hb => pair_range ((hb.cell (p := ⟨b7, o7 + i * 2, none⟩) hb7).trans q0) (by rw [Nat.add_assoc]; exact (hb.cell (p := ⟨b7, o7 + (i * 2 + 1), none⟩) hb7).trans q1)
            clear hp4 hp7 hfl p0 p1 q0 q1
            generalize ((Ns.pr sp i).1 : Int) = x at *
            generalize ((Ns.pr sp i).2 : Int) = y at *
            go_wp2_with fail
            refine wp_region_quiet_lit (by kernel_rfl) (by kernel_rfl) ?_
            repeat (go_big_quiet_step (fail))
            go_big_quiet_want
            refine quiet_load_mid 39 (.tmp 130) rfl b4 (o4 + i * 2) rfl _ _ (fun w' hw' => by obtain ⟨n, rfl⟩ := hw'; exact HLP.out _ (below_drewN HBi.out n)) Try.underlying39 rfl (pair_size _ _) ?_
            go_big_quiet_on
            simp only [Act.put, List.setIfInBounds_toArray, List.set_cons_zero, List.set_cons_succ]
            repeat (go_big_quiet_step (fail))
            go_big_quiet_want
            refine quiet_load_mid 39 (.tmp 134) rfl b7 (o7 + i * 2) rfl _ _ (fun w' hw' => by obtain ⟨n, rfl⟩ := hw'; exact HLQ.out _ (below_drewN HBi.out n)) Try.underlying39 rfl (pair_size _ _) ?_
            go_big_quiet_on
            simp only [Act.put, List.setIfInBounds_toArray, List.set_cons_zero, List.set_cons_succ]
            go_big_quiet_want
            refine quiet_run (.bool false) (fun w' => ?_) ?_
            · unfold execOp
              simp [Act.eval, pair_same, pair_guard]
            go_big_quiet_on
            simp only [Act.put, List.setIfInBounds_toArray, List.set_cons_zero, List.set_cons_succ]
            refine wpQuiet_nil ?_
            intro _ hw'
            obtain ⟨nq, hw''⟩ := hw'
            subst hw''
            go_wp2_with fail
            go_roundw
            case rel => exact ⟨i + 1, by omega, by go_num, Lib.hid (below_drewN HBi.out _)⟩
            case measure => simp [RowKit.intOf]; omega
          · go_wp2_with (go_at_call 11; ((with_reducible refine (CA.out _).mono ?_); rintro e w9 ⟨rfl, b9⟩; have HB9 := Lib.hid (below_next HB0.out (below_next HB8.out (below_next HBi.out b9))); clear b9))
            go_ret
            exact ⟨rfl, HB9.out⟩
      · have h1 : Ns.fndR us fr tz kd = -1 := if_neg hok
        have h2 : Ns.splR us fr tz kd = [] := if_neg hok
        have h3 : Ns.trR us fr tz = (fr, tz) := if_neg hok
        rw [h1] at CN
        rw [h2] at CS
        rw [h3] at CT
        have hcase : fr < 0 ∨ tz < fr ∨ (us.length : Int) < tz := by unfold Ns.okp at hok; omega
        clear h1 h2 h3 hok hfit hel
        generalize Ns.ends us = es at *
        have HC := Lib.hid hcase
        clear hcase
        go_enter Try.func4, Try.ntmps4
        go_upto_region 1 with fail
        rw [HW.out]
        clear HW
        go_upto_region 10 with (first | (go_at_call 10; ((with_reducible refine (CF.out).mono ?_); rintro e w1 ⟨rfl, rfl⟩)) | (go_at_call 13; ((with_reducible refine (CE2.out).mono ?_); rintro e w2 ⟨A2, c2, rfl, hc2, B2, b2⟩; have HB2 := Lib.hid b2; have HS2 := Lib.hid B2; clear b2 B2)) | (go_at_call 16; ((with_reducible refine (CN.out _ _ _ hc2 HB2.out HS2.out).mono ?_); rintro e w3 ⟨rfl, b3⟩; have HB3 := Lib.hid (below_next HB2.out b3); have HS3 := Lib.hid (HS2.out.next b3); have hk3 := (HK.out _ HB3.out).1; clear b3)) | (go_at_call 17; ((with_reducible refine (CS.out _ _ _ hc2 HB3.out HS3.out).mono ?_); rintro e w4 ⟨A4, c4, rfl, hc4, B4, b4⟩; have HB4 := Lib.hid (below_next HB3.out b4); clear b4 B4 hk3)) | (go_at_call 18; ((with_reducible refine (CT.out _ HB4.out).mono ?_); rintro e w5 ⟨rfl, b5⟩; have HB5 := Lib.hid (below_next HB4.out b5); clear b5)))
        have hcs := HC.out
        by_cases c1 : fr < 0
        · have d1 : decide (fr < 0) = true := decide_eq_true c1
          clear hcs
          go_wp2_with (first | (go_at_call 11; ((with_reducible refine (CA.out _).mono ?_); rintro e w9 ⟨rfl, b9⟩; have HB9 := Lib.hid (below_next HB0.out (below_next HB5.out b9)); clear b9)))
          go_ret
          exact ⟨rfl, HB9.out⟩
        · have d1 : decide (fr < 0) = false := decide_eq_false c1
          by_cases c2 : tz < fr
          · have d2 : decide (tz < fr) = true := decide_eq_true c2
            clear hcs
            go_wp2_with (first | (go_at_call 11; ((with_reducible refine (CA.out _).mono ?_); rintro e w9 ⟨rfl, b9⟩; have HB9 := Lib.hid (below_next HB0.out (below_next HB5.out b9)); clear b9)))
            go_ret
            exact ⟨rfl, HB9.out⟩
          · have d2 : decide (tz < fr) = false := decide_eq_false c2
            have d3 : decide ((us.length : Int) < tz) = true := decide_eq_true (by omega)
            clear hcs
            go_wp2_with (first | (go_at_call 11; ((with_reducible refine (CA.out _).mono ?_); rintro e w9 ⟨rfl, b9⟩; have HB9 := Lib.hid (below_next HB0.out (below_next HB5.out b9)); clear b9)))
            go_ret
            exact ⟨rfl, HB9.out⟩
  · have CF := Lib.hid (few false (by simp [hF]))
    clear hF h' few
    go_enter Try.func4, Try.ntmps4
    go_upto_region 1 with fail
    rw [HW.out]
    clear HW
    go_wp2_with (first | (go_at_call 10; ((with_reducible refine (CF.out).mono ?_); rintro e w1 ⟨rfl, rfl⟩)) | (go_at_call 11; ((with_reducible refine (CA.out _).mono ?_); rintro e w5 ⟨rfl, b5⟩; have HB5 := Lib.hid (below_next HB0.out b5); clear b5)))
    go_ret
    exact ⟨rfl, HB5.out⟩
end Go.Proofs.Ytpjdaenmfdcjhaa
