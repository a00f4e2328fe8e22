/-
  The walk of the law Same, of any two lists of tokens.
-/
import Derived.Test.YtgcmjkimiakibaaDoorGaq
import Derived.BigQuiet
import Derived.Deep.QuietTactic
import Derived.Test.YtgcmjkimiakibaaDoorGas
import Derived.Test.YtgcmjkimiakibaaDoorGat
import Derived.Test.YtgcmjkimiakibaaDoorGax
namespace Go.Proofs.YtgcmjkimiakibaaDoor
open Go.RowKit

namespace Tk
theorem eq_of_tk {a b : List Tok} (h : a.length = b.length) (hg : ∀ j, j < a.length → tk a j = tk b j) : a = b := by
  apply List.ext_getElem h
  intro j h1 h2
  have := hg j h1
  rwa [tk_eq h1, tk_eq h2] at this
end Tk
set_option maxHeartbeats 4000000 in
set_option maxRecDepth 100000 in
theorem same_all (ts us : List Tk.Tok) (b : Bool) (hb : b = true ↔ ts = us) (A C : Option Addr) (ca cb : Nat) (w : World) (hm : ts.length ≤ 65536) (_hm2 : us.length ≤ 65536) (hA : Ts w w.heap.size A ts) (hC : Ts w w.heap.size C us) :
    Calls Tryd.prog 14 #[.slice A ts.length ca, .slice C us.length cb] w fun e w' => e = .returned (.bool b) ∧ Below w.heap.size w w' := by
  have HA := Lib.hid hA
  have HC := Lib.hid hC
  clear hA hC
  by_cases hl : ts.length = us.length
  · have HBb := Lib.hid hb
    have HL := Lib.hid hl
    clear hb
    rw [← hl]
    have hlu : us.length = ts.length := hl.symm
    clear _hm2
    go_enter Tryd.func14, Tryd.ntmps14
    clear hl hlu
    go_wp2_with fail
    go_loopw [13] (fun v13 wr => ∃ k : Nat, k ≤ ts.length ∧ v13 = .int .i64 k ∧ Hid (∀ j, j < k → Tk.tk ts j = Tk.tk us j) ∧ Hid (Below w.heap.size w wr)) (fun v13 _ => ts.length - (RowKit.intOf v13).toNat)
    case atStart => exact ⟨0, Nat.zero_le _, rfl, Lib.hid (fun j hj => by omega), Lib.hid (Below.refl _ _)⟩
    case round =>
      obtain ⟨k, hk, rfl, HK, HB⟩ := hrel
      by_cases hlt : k < ts.length
      · obtain ⟨b1, off, rfl, _, hp⟩ := HA.out.next HB.out (by omega)
        obtain ⟨b2, off2, rfl, _, hp2⟩ := HC.out.next HB.out (by rw [← HL.out]; omega)
        obtain ⟨p0, p1, p2⟩ := hp k hlt
        obtain ⟨q0, q1, q2⟩ := hp2 k (by rw [← HL.out]; exact hlt)
        clear hp hp2
        have HY : Hid (Tk.tk ts k = Tk.tk us k → ∀ j, j < k + 1 → Tk.tk ts j = Tk.tk us j) := Lib.hid (fun h j hj => by
          by_cases e : j = k
          · subst e; exact h
          · exact HK.out j (by omega))
        have HN : Hid (Tk.tk ts k ≠ Tk.tk us k → b = false) := Lib.hid (fun h => by
          cases b with
          | false => rfl
          | true =>
            have e := HBb.out.1 rfl
            rw [e] at h
            exact absurd rfl h)
        generalize Tk.tk ts k = t at *
        generalize Tk.tk us k = u at *
        by_cases he : t = u
        · subst he
          have HV := Lib.hid (HY.out rfl)
          clear HY HN
          obtain ⟨kd, tx, nv⟩ := t
          simp only at p0 p1 p2 q0 q1 q2
          go_wp2_with fail
          go_quiet (fail)
          go_wp2_with fail
          go_roundw
          case rel => exact ⟨k + 1, by omega, by go_num, HV, Lib.hid (below_drewN HB.out _)⟩
          case measure => simp [RowKit.intOf]; omega
        · have HV : Hid (b = false) := Lib.hid (HN.out he)
          obtain ⟨kd, tx, nv⟩ := t
          obtain ⟨kd', tx', nv'⟩ := u
          simp only at p0 p1 p2 q0 q1 q2
          have HE : Hid (¬ (kd = kd' ∧ tx = tx' ∧ nv = nv')) := Lib.hid (fun h => he (by rw [h.1, h.2.1, h.2.2]))
          clear HY HN he
          by_cases e1 : kd = kd'
          · subst e1
            by_cases e2 : nv = nv'
            · subst e2
              have e3 : ¬ tx = tx' := fun h => HE.out ⟨rfl, h, rfl⟩
              have e5 : (tx.toList == tx'.toList) = false := by
                rw [beq_eq_false_iff_ne]
                intro h
                rw [Lib.toList_data, Lib.toList_data] at h
                exact e3 (ByteArray.ext (Array.ext' h))
              go_wp2_with fail
              go_quiet (fail)
              go_wp2_with fail
              go_ret
              exact ⟨by rw [HV.out]; rfl, below_drewN HB.out _⟩
            · have e3 : (nv == nv') = false := Ru.eq_f e2
              go_wp2_with fail
              go_quiet (fail)
              go_wp2_with fail
              go_ret
              exact ⟨by rw [HV.out]; rfl, below_drewN HB.out _⟩
          · have e3 : (kd == kd') = false := Ru.eq_f e1
            go_wp2_with fail
            go_quiet (fail)
            go_wp2_with fail
            go_ret
            exact ⟨by rw [HV.out]; rfl, below_drewN HB.out _⟩
      · have HV : Hid (b = true) := Lib.hid (HBb.out.2 (Tk.eq_of_tk HL.out (fun j hj => HK.out j (by omega))))
        go_wp2_with fail
        go_ret
        exact ⟨by rw [HV.out]; rfl, HB.out⟩
  · obtain rfl : b = false := by
      cases b with
      | false => rfl
      | true => exact absurd (congrArg List.length (hb.1 rfl)) hl
    have hne : ((ts.length : Int) != (us.length : Int)) = true := Ru.ne_t (by omega)
    have hne' : (ts.length != us.length) = true := by rw [bne_iff_ne]; exact hl
    clear hb hl
    go_enter Tryd.func14, Tryd.ntmps14
    go_wp2_with fail
    go_ret
    exact ⟨rfl, Below.refl _ _⟩
end Go.Proofs.YtgcmjkimiakibaaDoor

/-
  The walk of the law PrintSame.
-/
namespace Go.Proofs.YtgcmjkimiakibaaDoor
open Go.RowKit

/-- what is printed of what may be -/
theorem print_right (us : List Tk.Tok) (hF : Pr.Fair us) (hw : Pr.Wf us) (hr : Pr.RightU us) : ∃ ps : List Pr.PT, us = ps.map Pr.toTok ∧ Pr.Right ps ∧
    ∀ (A : Option Addr) (cap : Nat) (W : World), us.length ≤ cap → Ts W W.heap.size A us → PTab W.heap.size W → Calls Tryd.prog 12 #[.slice A us.length cap] W (Sg (Tk.str (Pr.prL none ps)) W) := by
  obtain ⟨_, ps, rfl, hp⟩ := (Pr.rightU_iff us).1 hr
  refine ⟨ps, rfl, hp, fun A cap W hc h1 h2 => ?_⟩
  have hl : (ps.map Pr.toTok).length = ps.length := by simp
  rw [hl]
  exact printP_yes ps hF hw hr (Pr.right_pt hp) A cap (by omega) W h1 h2
namespace Pr
open Ru Tk
theorem str_eq_iff {a b : List Int} : str a = str b ↔ wr a = wr b := by
  constructor
  · intro h; rw [← str_bs, ← str_bs, h]
  · intro h; unfold str; rw [h]
theorem toTok_inj {p q : PT} (hp : One p) (hq : One q) (h : toTok p = toTok q) : p = q := by
  obtain ⟨k, cs, n⟩ := p
  obtain ⟨k', cs', n'⟩ := q
  unfold toTok at h
  simp only [Prod.mk.injEq] at h
  obtain ⟨rfl, h1, rfl⟩ := h
  have e : cs = cs' := wr_inj (fun c hc => (hp.1 c hc).1) (fun c hc => (hq.1 c hc).1) (str_eq_iff.1 h1)
  rw [e]
theorem map_inj : ∀ {ps qs : List PT}, Right ps → Right qs → ps.map toTok = qs.map toTok → ps = qs
  | [], [], _, _, _ => rfl
  | [], _ :: _, _, _, h => by simp at h
  | _ :: _, [], _, _, h => by simp at h
  | p :: ps, q :: qs, hp, hq, h => by
    rw [List.map_cons, List.map_cons, List.cons.injEq] at h
    rw [toTok_inj hp.1 hq.1 h.1, map_inj hp.2.2 hq.2.2 h.2]
end Pr
set_option maxHeartbeats 8000000 in
set_option maxRecDepth 100000 in
theorem psame_any (us vs : List Tk.Tok) (hn : us.length ≤ 9223372036854775807) (hn2 : vs.length ≤ 9223372036854775807) (hw : Pr.Wf us) (hw2 : Pr.Wf vs) (A C : Option Addr) (cap cap2 : Nat) (hc : us.length ≤ cap) (hc2 : vs.length ≤ cap2) (w : World) (h : Ts w w.heap.size A us) (h2 : Ts w w.heap.size C vs) (hT : PTab w.heap.size w) :
    Calls Tryd.prog 4 #[.slice A us.length cap, .slice C vs.length cap2] w (Bo true w) := by
  have CA : Hid (∀ W, Below w.heap.size w W → Calls Tryd.prog 7 #[] W (Bo true W)) := Lib.hid fun W hb => awake_any W (hT.next hb)
  by_cases hF : Pr.Fair us
  · have CF := Lib.hid (few_any us hn true (by simp [hF]) A cap w h)
    by_cases hF2 : Pr.Fair vs
    · have CF2 := Lib.hid (few_any vs hn2 true (by simp [hF2]) C cap2 w h2)
      have hm := hF.1
      have hm2 := hF2.1
      by_cases hR : Pr.RightU us
      · have CR := Lib.hid (rright_any us hF true (by simp [hR]) A cap w h)
        by_cases hR2 : Pr.RightU vs
        · have CR2 : Hid (∀ W, Below w.heap.size w W → Calls Tryd.prog 11 #[.slice C vs.length cap2] W (Bo true W)) := Lib.hid fun W hb => rright_any vs hF2 true (by simp [hR2]) C cap2 W (h2.next hb)
          obtain ⟨ps, hps, hr1, hp1⟩ := print_right us hF hw hR
          obtain ⟨qs, hqs, hr2, hp2⟩ := print_right vs hF2 hw2 hR2
          have hiff : Tk.str (Pr.prL none ps) = Tk.str (Pr.prL none qs) ↔ us = vs := by
            rw [Pr.str_eq_iff]
            constructor
            · intro e; rw [hps, hqs]; exact Pr.print_inj hr1 hr2 e
            · intro e
              rw [hps, hqs] at e
              rw [Pr.map_inj hr1 hr2 e]
          obtain ⟨X, hX⟩ : ∃ X, X = Tk.str (Pr.prL none ps) := ⟨_, rfl⟩
          obtain ⟨Y, hY⟩ : ∃ Y, Y = Tk.str (Pr.prL none qs) := ⟨_, rfl⟩
          rw [← hX, ← hY] at hiff
          rw [← hX] at hp1
          rw [← hY] at hp2
          obtain ⟨d, hd, hdi⟩ : ∃ d : Bool, (X.toList == Y.toList) = d ∧ (d = true ↔ us = vs) := by
            refine ⟨_, rfl, ?_⟩
            rw [beq_iff_eq, ← hiff, Lib.toList_data, Lib.toList_data]
            exact ⟨fun h => ByteArray.ext (Array.ext' h), fun h => by rw [h]⟩
          have CP : Hid (∀ W, Below w.heap.size w W → Calls Tryd.prog 12 #[.slice A us.length cap] W (Sg X W)) := Lib.hid fun W hb => hp1 A cap W hc (h.next hb) (hT.next hb)
          have CP2 : Hid (∀ W, Below w.heap.size w W → Calls Tryd.prog 12 #[.slice C vs.length cap2] W (Sg Y W)) := Lib.hid fun W hb => hp2 C cap2 W hc2 (h2.next hb) (hT.next hb)
          have CS : Hid (∀ W, Below w.heap.size w W → Calls Tryd.prog 14 #[.slice A us.length cap, .slice C vs.length cap2] W (Bo d W)) := Lib.hid fun W hb => same_all us vs d hdi A C cap cap2 W (by omega) (by omega) (h.next hb) (h2.next hb)
          clear hp1 hp2 hdi hiff hX hY hps hqs hr1 hr2 hR hR2 hF hF2 h h2 hT hw hw2
          have HD := Lib.hid hd
          go_enter Tryd.func4, Tryd.ntmps4
          have hcd : (d == d) = true := by cases d <;> rfl
          go_wp2_with (first | (go_at_call 6; ((with_reducible refine (CF.out).mono ?_); rintro e w1 ⟨rfl, rfl⟩)) | (go_at_call 6; ((with_reducible refine (CF2.out).mono ?_); rintro e w1 ⟨rfl, rfl⟩)) | (go_at_call 11; ((with_reducible refine (CR.out).mono ?_); rintro e w2 ⟨rfl, b2⟩; have HB2 := Lib.hid b2; have C2 := Lib.hid (CR2.out _ HB2.out); clear b2 CR)) | (go_at_call 11; ((with_reducible refine (C2.out).mono ?_); rintro e w3 ⟨rfl, b3⟩; have HB3 := Lib.hid (below_next HB2.out b3); have C3 := Lib.hid (CP.out _ HB3.out); clear b3)) | (go_at_call 12; ((with_reducible refine (C3.out).mono ?_); rintro e w4 ⟨rfl, b4⟩; have HB4 := Lib.hid (below_next HB3.out b4); have C4 := Lib.hid (CP2.out _ HB4.out); clear b4 C3)) | (go_at_call 12; ((with_reducible refine (C4.out).mono ?_); rintro e w5 ⟨rfl, b5⟩; have HB5 := Lib.hid (below_next HB4.out b5); have C5 := Lib.hid (CS.out _ HB5.out); clear b5)) | (go_at_call 14; ((with_reducible refine (C5.out).mono ?_); rintro e w6 ⟨rfl, b6⟩; have HB6 := Lib.hid (below_next HB5.out b6); have C6 := Lib.hid (CA.out _ HB6.out); clear b6)) | (go_at_call 7; ((with_reducible refine (C6.out).mono ?_); rintro e w7 ⟨rfl, b7⟩; have HB7 := Lib.hid (below_next HB6.out b7); clear b7)))
          go_ret
          exact ⟨rfl, HB7.out⟩
        · have CR2 : Hid (∀ W, Below w.heap.size w W → Calls Tryd.prog 11 #[.slice C vs.length cap2] W (Bo false W)) := Lib.hid fun W hb => rright_any vs hF2 false (by simp [hR2]) C cap2 W (h2.next hb)
          clear hR hR2 hF hF2 h h2 hT hw hw2
          go_enter Tryd.func4, Tryd.ntmps4
          go_wp2_with (first | (go_at_call 6; ((with_reducible refine (CF.out).mono ?_); rintro e w1 ⟨rfl, rfl⟩)) | (go_at_call 6; ((with_reducible refine (CF2.out).mono ?_); rintro e w1 ⟨rfl, rfl⟩)) | (go_at_call 11; ((with_reducible refine (CR.out).mono ?_); rintro e w2 ⟨rfl, b2⟩; have HB2 := Lib.hid b2; have C2 := Lib.hid (CR2.out _ HB2.out); clear b2 CR)) | (go_at_call 11; ((with_reducible refine (C2.out).mono ?_); rintro e w3 ⟨rfl, b3⟩; have HB3 := Lib.hid (below_next HB2.out b3); have C6 := Lib.hid (CA.out _ HB3.out); clear b3)) | (go_at_call 7; ((with_reducible refine (C6.out).mono ?_); rintro e w7 ⟨rfl, b7⟩; have HB7 := Lib.hid (below_next HB3.out b7); clear b7)))
          go_ret
          exact ⟨rfl, HB7.out⟩
      · have CR := Lib.hid (rright_any us hF false (by simp [hR]) A cap w h)
        clear hR hF hF2 h h2 hT hw hw2
        go_enter Tryd.func4, Tryd.ntmps4
        go_wp2_with (first | (go_at_call 6; ((with_reducible refine (CF.out).mono ?_); rintro e w1 ⟨rfl, rfl⟩)) | (go_at_call 6; ((with_reducible refine (CF2.out).mono ?_); rintro e w1 ⟨rfl, rfl⟩)) | (go_at_call 11; ((with_reducible refine (CR.out).mono ?_); rintro e w2 ⟨rfl, b2⟩; have HB2 := Lib.hid b2; have C6 := Lib.hid (CA.out _ HB2.out); clear b2 CR)) | (go_at_call 7; ((with_reducible refine (C6.out).mono ?_); rintro e w7 ⟨rfl, b7⟩; have HB7 := Lib.hid (below_next HB2.out b7); clear b7)))
        go_ret
        exact ⟨rfl, HB7.out⟩
    · have CF2 := Lib.hid (few_any vs hn2 false (by simp [hF2]) C cap2 w h2)
      have C6 := Lib.hid (CA.out _ (Below.refl _ _))
      clear hF hF2 h h2 hT hw hw2
      go_enter Tryd.func4, Tryd.ntmps4
      go_wp2_with (first | (go_at_call 6; ((with_reducible refine (CF.out).mono ?_); rintro e w1 ⟨rfl, rfl⟩)) | (go_at_call 6; ((with_reducible refine (CF2.out).mono ?_); rintro e w1 ⟨rfl, rfl⟩)) | (go_at_call 7; ((with_reducible refine (C6.out).mono ?_); rintro e w7 ⟨rfl, b7⟩; have HB7 := Lib.hid b7; clear b7)))
      go_ret
      exact ⟨rfl, HB7.out⟩
  · have CF := Lib.hid (few_any us hn false (by simp [hF]) A cap w h)
    have C6 := Lib.hid (CA.out _ (Below.refl _ _))
    clear hF h h2 hT hw hw2
    go_enter Tryd.func4, Tryd.ntmps4
    go_wp2_with (first | (go_at_call 6; ((with_reducible refine (CF.out).mono ?_); rintro e w1 ⟨rfl, rfl⟩)) | (go_at_call 7; ((with_reducible refine (C6.out).mono ?_); rintro e w7 ⟨rfl, b7⟩; have HB7 := Lib.hid b7; clear b7)))
    go_ret
    exact ⟨rfl, HB7.out⟩
end Go.Proofs.YtgcmjkimiakibaaDoor
