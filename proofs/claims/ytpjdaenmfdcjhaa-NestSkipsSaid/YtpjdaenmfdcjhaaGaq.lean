/-
  The walk of the law NestSkips.
-/
import Derived.Test.YtpjdaenmfdcjhaaGap
import Derived.Test.YtpjdaenmfdcjhaaGae
import Derived.LoopTactic
import Derived.IntWalk
namespace Go.Proofs.Ytpjdaenmfdcjhaa
open Go.RowKit

namespace Ns
open Tk
theorem skip_out {ts : List Tok} {k : Nat} (hk : k < ts.length) (ho : opn ts k = []) : sk (ends ts) k ≤ ts.length ∧ (sk (ends ts) k < ts.length → opn ts (sk (ends ts) k) = []) := by
  have hl := ends_len ts
  have hle : sk (ends ts) k ≤ ts.length := by have := sk_le (es := ends ts) (a := k) (by omega); omega
  refine ⟨hle, fun hlt => ?_⟩
  have e := sk_eq (ends ts) k
  by_cases hO : isO (tk ts k)
  · have hr := ends_cases hk
    have hv : Ru.g (ends ts) k ≠ -1 := fun c => by
      rcases ends_range hk with h | h
      · exact h.1 hO
      · unfold Ru.g at c; omega
    have hs : skp (ends ts) k = min (Ru.g (ends ts) k + 1) (ends ts).length := by
      have := skp_yes (es := ends ts) (a := (k : Int)) (by omega) (by omega) (by rw [Int.toNat_natCast]; omega)
      rwa [Int.toNat_natCast] at this
    obtain ⟨j, j1, j2, j3, j4, j5⟩ := ends_shut hk (by omega) (by omega)
    have ej : sk (ends ts) k = j + 1 := by omega
    rw [ej, opn_pop j3]
    have hm : k ∈ opn ts j := j4 ▸ top_mem j3.2.1
    obtain ⟨i, rfl⟩ : ∃ i, j = i + 1 := ⟨j - 1, by omega⟩
    obtain ⟨r, hr2⟩ := opn_prefix hO i (by omega) hm
    rw [ho, List.nil_append] at hr2
    have hso := opn_sorted ts (i + 1)
    rw [hr2] at hso j4 ⊢
    rcases List.eq_nil_or_concat r with h0 | ⟨r', x, h0⟩
    · rw [h0]; rfl
    · rw [List.concat_eq_append] at h0
      subst h0
      have hx : top (k :: (r' ++ [x])) = x := by unfold top; simp [List.getLastD_eq_getLast?, List.getLast?_cons, List.getLast?_append]
      rw [hx] at j4
      rw [List.pairwise_cons] at hso
      have := hso.1 x (by simp)
      omega
  · have hs : skp (ends ts) k = k + 1 := skp_no (fun c => by have := c.2.2; rw [Int.toNat_natCast, ends_none hk hO] at this; omega)
    have ej : sk (ends ts) k = k + 1 := by omega
    rw [ej, opn_keep hO (fun c => c.2.1 ho), ho]
end Ns
set_option maxHeartbeats 16000000 in
set_option maxRecDepth 100000 in
theorem nskips_any (N : NestC) (us : List Tk.Tok) (hn : us.length ≤ 9223372036854775807) (A : Option Addr) (cap : Nat) (_hc : us.length ≤ cap) (a : Int) (w : World) (h : Ts w w.heap.size A us) :
    Calls Try.prog 5 #[.slice A us.length cap, .int .i64 a] w (Bo true w) := by
  have CA : Hid (∀ W, Calls Try.prog 11 #[] W (Bo true W)) := Lib.hid (lawake_any N)
  have awf : ∀ (b : Bool), (b = true ↔ Pr.Fair us) → Calls Try.prog 10 #[.slice A us.length cap] w fun e w' => e = .returned (.bool b) ∧ w = w' := fun b hb => few_any us hn b hb A cap w h
  by_cases hF : Pr.Fair us
  · have CF := Lib.hid (awf true (by simp [hF]))
    have hm := hF.1
    clear awf
    by_cases hbig : a > 1099511627776
    · have d1 : decide (1099511627776 < a) = true := decide_eq_true hbig
      clear hF h hbig
      go_enter Try.func5, Try.ntmps5
      go_wp2_with (first | (go_at_call 10; ((with_reducible refine (CF.out).mono ?_); rintro e w1 ⟨rfl, rfl⟩)) | (go_at_call 11; ((with_reducible refine (CA.out _).mono ?_); rintro e w5 ⟨rfl, b5⟩; have HB5 := Lib.hid b5; clear b5)))
      go_ret
      exact ⟨rfl, HB5.out⟩
    · have d1 : decide (1099511627776 < a) = false := decide_eq_false hbig
      by_cases hlow : a < -1099511627776
      · have d2 : decide (a < -1099511627776) = true := decide_eq_true hlow
        clear hF h hbig hlow
        go_enter Try.func5, Try.ntmps5
        go_wp2_with (first | (go_at_call 10; ((with_reducible refine (CF.out).mono ?_); rintro e w1 ⟨rfl, rfl⟩)) | (go_at_call 11; ((with_reducible refine (CA.out _).mono ?_); rintro e w5 ⟨rfl, b5⟩; have HB5 := Lib.hid b5; clear b5)))
        go_ret
        exact ⟨rfl, HB5.out⟩
      · have d2 : decide (a < -1099511627776) = false := decide_eq_false hlow
        have HAB : Hid (-1152921504606846976 ≤ a ∧ a ≤ 1152921504606846976) := Lib.hid (by omega)
        have CE := Lib.hid (rends_any us (by omega) A cap w h)
        clear hbig hlow hF
        by_cases hd : Ns.deep us
        · have CE2 := Lib.hid (CE.out.mono fun e w' h => h.2 hd)
          clear CE hd h
          go_enter Try.func5, Try.ntmps5
          go_wp2_with (first | (go_at_call 10; ((with_reducible refine (CF.out).mono ?_); rintro e w1 ⟨rfl, rfl⟩)) | (go_at_call 13; ((with_reducible refine (CE2.out).mono ?_); rintro e w2 ⟨rfl, b2⟩; have HB2 := Lib.hid b2; clear b2)) | (go_at_call 11; ((with_reducible refine (CA.out _).mono ?_); rintro e w5 ⟨rfl, b5⟩; have HB5 := Lib.hid (below_next HB2.out b5); clear b5)))
          go_ret
          exact ⟨rfl, HB5.out⟩
        · have CE2 : Hid (Calls Try.prog 13 #[.slice A us.length cap] w (EndsL (Ns.ends us) w)) := Lib.hid (CE.out.mono fun e w' h => ends_rd (h.1 hd))
          have HO0 : Hid (∀ k, k < us.length → Ns.opn us k = [] → Ns.sk (Ns.ends us) k ≤ us.length ∧ (Ns.sk (Ns.ends us) k < us.length → Ns.opn us (Ns.sk (Ns.ends us) k) = [])) := Lib.hid fun k hk ho => Ns.skip_out hk ho
          have hfit : Ns.Fit (Ns.ends us) := Ns.ends_fit (by omega)
          have HFIT := Lib.hid hfit
          have H := Lib.hid h
          have CK : Hid (∀ (C : Option Addr) (cc : Nat) (x : Int) (W : World), (-1152921504606846976 ≤ x ∧ x ≤ 1152921504606846976) → Bs W W.heap.size .i64 C (Ns.ends us) → Calls Try.prog 22 #[.slice C (Ns.ends us).length cc, .int .i64 x] W (Nu (Ns.skp (Ns.ends us) x) W)) := Lib.hid fun C cc x W hx hB => N.skip _ hfit (Ns.ends_lead _) C cc x hx W hB
          have CR : Hid (∀ (C : Option Addr) (cc : Nat) (W : World), Bs W W.heap.size .i64 C (Ns.ends us) → Calls Try.prog 23 #[.slice C (Ns.ends us).length cc, .int .i64 a] W fun e w' => e = .returned (.int .i64 (Ns.skp (Ns.ends us) a)) ∧ W = w') := Lib.hid fun C cc W hB => rskip_any _ hfit C cc a HAB.out W hB
          have CKN : Hid (∀ (C : Option Addr) (cc : Nat) (k : Nat) (W : World), k < us.length → Bs W W.heap.size .i64 C (Ns.ends us) → Calls Try.prog 22 #[.slice C (Ns.ends us).length cc, .int .i64 k] W (Nu ((Ns.sk (Ns.ends us) k : Nat) : Int) W)) := Lib.hid fun C cc k W hk hB => by rw [Ns.sk_eq]; exact CK.out C cc k W (by omega) hB
          have CO : Hid (∀ (k : Nat) (W : World), k < us.length → Ns.opn us k = [] → Below w.heap.size w W → Calls Try.prog 24 #[.slice A us.length cap, .int .i64 k] W (Told .i64 [] W)) := Lib.hid fun k W hk ho hb => (ropen_any us (by omega) A cap k (by omega) W (H.out.next hb)).mono fun e w' hh => by have := told hh; rw [ho] at this; exact this
          have HG : Hid (∀ k, k < Ns.sk (Ns.ends us) k) := Lib.hid fun k => Ns.sk_gt _ k
          clear CE hd h hfit
          generalize Ns.ends us = es at *
          go_enter Try.func5, Try.ntmps5
          go_wp2_with (first | (go_at_call 10; ((with_reducible refine (CF.out).mono ?_); rintro e w1 ⟨rfl, rfl⟩)) | (go_at_call 13; ((with_reducible refine (CE2.out).mono ?_); rintro e w2 ⟨A2, c2, rfl, hc2, B2, b2⟩; have HB2 := Lib.hid b2; have HS2 := Lib.hid B2; clear b2 B2)) | (go_at_call 22; ((with_reducible refine (CK.out _ _ _ _ HAB.out HS2.out).mono ?_); rintro e w3 ⟨rfl, b3⟩; have HB3 := Lib.hid (below_next HB2.out b3); have HS3 := Lib.hid (HS2.out.next b3); clear b3)) | (go_at_call 23; ((with_reducible refine (CR.out _ _ _ HS3.out).mono ?_); rintro e w4 ⟨rfl, rfl⟩)))
          clear CF CE2 CK CR
          go_loopw [7, 38] (fun v7 v38 wr => ∃ i k : Nat, i ≤ us.length ∧ i ≤ k ∧ k ≤ us.length ∧ v38 = .int .i64 i ∧ v7 = .int .i64 k ∧ Hid (k < us.length → Ns.opn us k = []) ∧ Hid (Below w.heap.size w wr) ∧ Hid (Bs wr wr.heap.size .i64 A2 es)) (fun _ v38 _ => us.length - (RowKit.intOf v38).toNat)
          case atStart => exact ⟨0, 0, Nat.zero_le _, Nat.le_refl _, Nat.zero_le _, rfl, rfl, Lib.hid (fun _ => rfl), HB3, HS3⟩
          case round =>
            obtain ⟨i, k, hi, hik, hk, rfl, rfl, HK, HB, HS⟩ := hrel
            by_cases hil : i < us.length
            · have d3 : decide (i < us.length) = true := decide_eq_true hil
              by_cases hkl : k < us.length
              · have d4 : decide (us.length ≤ k) = false := decide_eq_false (by omega)
                have CN := Lib.hid (CKN.out A2 c2 k _ hkl HS.out)
                have ho := HK.out hkl
                have h2 := HO0.out k hkl ho
                have hg := HG.out k
                have HQ := Lib.hid h2.2
                have hle := h2.1
                have COk : Hid (∀ (W : World), Below w.heap.size w W → Calls Try.prog 24 #[.slice A us.length cap, .int .i64 k] W (Told .i64 [] W)) := Lib.hid fun W hb => CO.out k W hkl ho hb
                clear ho h2
                generalize Ns.sk es k = k2 at *
                go_wp2_with (first | (go_at_call 22; ((with_reducible refine (CN.out).mono ?_); rintro e w5 ⟨rfl, b5⟩; have HB5 := Lib.hid (below_next HB.out b5); have HS5 := Lib.hid (HS.out.next b5); clear b5)) | (go_at_call 24; ((with_reducible refine (COk.out _ HB5.out).mono ?_); rintro e w6 ⟨A6, c6, rfl, hc6, B6, b6⟩; have HB6 := Lib.hid (below_next HB5.out b6); have HS6 := Lib.hid (HS5.out.next b6); clear b6 B6)))
                go_roundw
                case rel => exact ⟨i + 1, k2, by omega, by omega, hle, by go_num, rfl, HQ, HB6, HS6⟩
                case measure => simp [RowKit.intOf]; omega
              · have d4 : decide (us.length ≤ k) = true := decide_eq_true (by omega)
                go_wp2_with (go_at_call 11; ((with_reducible refine (CA.out _).mono ?_); rintro e w9 ⟨rfl, b9⟩; have HB9 := Lib.hid (below_next HB.out b9); clear b9))
                go_ret
                exact ⟨rfl, HB9.out⟩
            · have d3 : decide (i < us.length) = false := decide_eq_false hil
              have d4 : decide (us.length ≤ k) = true := decide_eq_true (by omega)
              go_wp2_with (go_at_call 11; ((with_reducible refine (CA.out _).mono ?_); rintro e w9 ⟨rfl, b9⟩; have HB9 := Lib.hid (below_next HB.out b9); clear b9))
              go_ret
              exact ⟨rfl, HB9.out⟩
  · have CF := Lib.hid (awf false (by simp [hF]))
    clear hF h awf
    go_enter Try.func5, Try.ntmps5
    go_wp2_with (first | (go_at_call 10; ((with_reducible refine (CF.out).mono ?_); rintro e w1 ⟨rfl, rfl⟩)) | (go_at_call 11; ((with_reducible refine (CA.out _).mono ?_); rintro e w5 ⟨rfl, b5⟩; have HB5 := Lib.hid b5; clear b5)))
    go_ret
    exact ⟨rfl, HB5.out⟩
end Go.Proofs.Ytpjdaenmfdcjhaa
